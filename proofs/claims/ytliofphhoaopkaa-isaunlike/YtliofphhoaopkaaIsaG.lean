/-
  The law IsaUnlike.
-/
import Derived.Test.YtliofphhoaopkaaIsaF
namespace Go.Proofs.Ytliofphhoaopkaa
open Go.RowKit
set_option linter.unusedVariables false
set_option linter.unusedSimpArgs false
set_option maxHeartbeats 2000000 in
theorem walk_Unlike_s (k op a b c i l oq d f g j k' op' a' b' c' i' r : Int) (u v u' : Bool) (w : World)
    (CF : Hid (∀ w, Calls Try.prog 18 #[.agg #[.int .i64 k, .int .i64 op, .int .i64 a, .int .i64 b, .int .i64 c, .int .i64 i, .bool u]] w fun e w' => e = .returned (.agg #[.int .i64 (k'), .int .i64 (op'), .int .i64 (a'), .int .i64 (b'), .int .i64 (c'), .int .i64 (i'), .bool (u')]) ∧ Kept w w'))
    (CG : Hid (∀ w, Calls Try.prog 18 #[.agg #[.int .i64 l, .int .i64 oq, .int .i64 d, .int .i64 f, .int .i64 g, .int .i64 j, .bool v]] w fun e w' => e = .returned (.agg #[.int .i64 (k'), .int .i64 (op'), .int .i64 (a'), .int .i64 (b'), .int .i64 (c'), .int .i64 (i'), .bool (u')]) ∧ Kept w w'))
    (CE : Hid (∀ w, Calls Try.prog 12 #[.agg #[.int .i64 (k'), .int .i64 (op'), .int .i64 (a'), .int .i64 (b'), .int .i64 (c'), .int .i64 (i'), .bool (u')]] w fun e w' => e = .returned (.tuple #[.int .u32 r, .int .i64 0]) ∧ Kept w w'))
    (CD : Hid (∀ w, Calls Try.prog 12 #[.agg #[.int .i64 (k'), .int .i64 (op'), .int .i64 (a'), .int .i64 (b'), .int .i64 (c'), .int .i64 (i'), .bool (u')]] w fun e w' => e = .returned (.tuple #[.int .u32 r, .int .i64 0]) ∧ Kept w w')) :
    Calls Try.prog 9 #[.agg #[.int .i64 k, .int .i64 op, .int .i64 a, .int .i64 b, .int .i64 c, .int .i64 i, .bool u], .agg #[.int .i64 l, .int .i64 oq, .int .i64 d, .int .i64 f, .int .i64 g, .int .i64 j, .bool v]] w fun e w' => e = .returned (.bool true) ∧ Below w.heap.size w w' := by
  have X0 := Lib.hid ((Box.new k op a b c i u w).alloc (.cells #[.int .i64 l, .int .i64 oq, .int .i64 d, .int .i64 f, .int .i64 g, .int .i64 j, .bool v] 23))
  have Y0 := Lib.hid (size_alloc1 w (.cells #[.int .i64 k, .int .i64 op, .int .i64 a, .int .i64 b, .int .i64 c, .int .i64 i, .bool u] 23) ▸ Box.new l oq d f g j v (w.alloc (.cells #[.int .i64 k, .int .i64 op, .int .i64 a, .int .i64 b, .int .i64 c, .int .i64 i, .bool u] 23)))
  have H0 := Lib.hid (show Kept w ((w.alloc (.cells #[.int .i64 k, .int .i64 op, .int .i64 a, .int .i64 b, .int .i64 c, .int .i64 i, .bool u] 23)).alloc (.cells #[.int .i64 l, .int .i64 oq, .int .i64 d, .int .i64 f, .int .i64 g, .int .i64 j, .bool v] 23)) from ((Kept.refl w).alloc _ _).alloc _ _)
  go_enter Try.func9, Try.ntmps9
  go_wp2_with fail
  refine (shown_any _).mono ?_; rintro e w1 ⟨rfl, hK1⟩
  obtain ⟨j0, j1, j2, j3, j4, j5, j6⟩ := (X0.out.kept hK1).cells
  replace H0 := Lib.hid (H0.out.trans hK1)
  replace Y0 := Lib.hid (Y0.out.kept hK1)
  clear hK1
  go_wp2_with fail
  refine (CF.out _).mono ?_; rintro e w2 ⟨rfl, hK2⟩
  clear j0 j1 j2 j3 j4 j5 j6 X0
  replace H0 := Lib.hid ((H0.out.trans hK2).alloc #[.int .i64 (k'), .int .i64 (op'), .int .i64 (a'), .int .i64 (b'), .int .i64 (c'), .int .i64 (i'), .bool (u')] 23)
  have X1 := Lib.hid (Box.new k' op' a' b' c' i' u' w2)
  replace Y0 := Lib.hid ((Y0.out.kept hK2).alloc (.cells #[.int .i64 (k'), .int .i64 (op'), .int .i64 (a'), .int .i64 (b'), .int .i64 (c'), .int .i64 (i'), .bool (u')] 23))
  clear hK2
  go_upto_region 3 with (fail)
  have H0 := H0.out
  have X1 := X1.out
  have Y0 := Y0.out
  generalize (w2.alloc (.cells #[.int .i64 (k'), .int .i64 (op'), .int .i64 (a'), .int .i64 (b'), .int .i64 (c'), .int .i64 (i'), .bool (u')] 23)) = w3 at H0 X1 Y0 ⊢
  have H0 := Lib.hid H0
  have X1' := Lib.hid X1
  obtain ⟨j0, j1, j2, j3, j4, j5, j6⟩ := Y0.cells
  clear X1 Y0
  go_wp2_with fail
  refine (CG.out _).mono ?_; rintro e w4 ⟨rfl, hK4⟩
  clear j0 j1 j2 j3 j4 j5 j6
  replace H0 := Lib.hid ((H0.out.trans hK4).alloc #[.int .i64 (k'), .int .i64 (op'), .int .i64 (a'), .int .i64 (b'), .int .i64 (c'), .int .i64 (i'), .bool (u')] 23)
  replace X1' := Lib.hid ((X1'.out.kept hK4).alloc (.cells #[.int .i64 (k'), .int .i64 (op'), .int .i64 (a'), .int .i64 (b'), .int .i64 (c'), .int .i64 (i'), .bool (u')] 23))
  have Y1 := Lib.hid (Box.new k' op' a' b' c' i' u' w4)
  clear hK4
  go_upto_region 4 with (fail)
  have H0 := H0.out
  have X1 := X1'.out
  have Y1 := Y1.out
  clear X1'
  generalize (w4.alloc (.cells #[.int .i64 (k'), .int .i64 (op'), .int .i64 (a'), .int .i64 (b'), .int .i64 (c'), .int .i64 (i'), .bool (u')] 23)) = w5 at H0 X1 Y1 ⊢
  have H0 := Lib.hid H0
  have X1' := Lib.hid X1
  have Y1' := Lib.hid Y1
  obtain ⟨j0, j1, j2, j3, j4, j5, j6⟩ := X1.cells
  clear X1 Y1
  go_wp2_with fail
  refine (CE.out _).mono ?_; rintro e w6 ⟨rfl, hK6⟩
  clear j0 j1 j2 j3 j4 j5 j6
  replace H0 := Lib.hid (H0.out.trans hK6)
  replace X1' := Lib.hid (X1'.out.kept hK6)
  obtain ⟨j0, j1, j2, j3, j4, j5, j6⟩ := (Y1'.out.kept hK6).cells
  replace Y1' := Lib.hid (Y1'.out.kept hK6)
  clear hK6
  go_wp2_with fail
  refine (CD.out _).mono ?_; rintro e w7 ⟨rfl, hK7⟩
  clear j0 j1 j2 j3 j4 j5 j6
  replace H0 := Lib.hid (H0.out.trans hK7)
  obtain ⟨j0, j1, j2, j3, j4, j5, j6⟩ := (X1'.out.kept hK7).cells
  obtain ⟨l0, l1, l2, l3, l4, l5, l6⟩ := (Y1'.out.kept hK7).cells
  clear hK7
  go_wp2_with fail
  go_ret
  exact yesB (by simp) (H0.out)
set_option maxHeartbeats 2000000 in
theorem walk_Unlike_n (k op a b c i l oq d f g j k' op' a' b' c' i' l' oq' d' f' g' j' r s : Int) (u v u' v' : Bool) (hne : ¬ (k' = l' ∧ op' = oq' ∧ a' = d' ∧ b' = f' ∧ c' = g' ∧ i' = j' ∧ u' = v')) (hrs : (r == s) = false) (hrs' : ¬ r = s) (w : World)
    (CF : Hid (∀ w, Calls Try.prog 18 #[.agg #[.int .i64 k, .int .i64 op, .int .i64 a, .int .i64 b, .int .i64 c, .int .i64 i, .bool u]] w fun e w' => e = .returned (.agg #[.int .i64 (k'), .int .i64 (op'), .int .i64 (a'), .int .i64 (b'), .int .i64 (c'), .int .i64 (i'), .bool (u')]) ∧ Kept w w'))
    (CG : Hid (∀ w, Calls Try.prog 18 #[.agg #[.int .i64 l, .int .i64 oq, .int .i64 d, .int .i64 f, .int .i64 g, .int .i64 j, .bool v]] w fun e w' => e = .returned (.agg #[.int .i64 (l'), .int .i64 (oq'), .int .i64 (d'), .int .i64 (f'), .int .i64 (g'), .int .i64 (j'), .bool (v')]) ∧ Kept w w'))
    (CE : Hid (∀ w, Calls Try.prog 12 #[.agg #[.int .i64 (k'), .int .i64 (op'), .int .i64 (a'), .int .i64 (b'), .int .i64 (c'), .int .i64 (i'), .bool (u')]] w fun e w' => e = .returned (.tuple #[.int .u32 r, .int .i64 0]) ∧ Kept w w'))
    (CD : Hid (∀ w, Calls Try.prog 12 #[.agg #[.int .i64 (l'), .int .i64 (oq'), .int .i64 (d'), .int .i64 (f'), .int .i64 (g'), .int .i64 (j'), .bool (v')]] w fun e w' => e = .returned (.tuple #[.int .u32 s, .int .i64 0]) ∧ Kept w w')) :
    Calls Try.prog 9 #[.agg #[.int .i64 k, .int .i64 op, .int .i64 a, .int .i64 b, .int .i64 c, .int .i64 i, .bool u], .agg #[.int .i64 l, .int .i64 oq, .int .i64 d, .int .i64 f, .int .i64 g, .int .i64 j, .bool v]] w fun e w' => e = .returned (.bool true) ∧ Below w.heap.size w w' := by
  have HNE := Lib.hid hne
  clear hne
  have X0 := Lib.hid ((Box.new k op a b c i u w).alloc (.cells #[.int .i64 l, .int .i64 oq, .int .i64 d, .int .i64 f, .int .i64 g, .int .i64 j, .bool v] 23))
  have Y0 := Lib.hid (size_alloc1 w (.cells #[.int .i64 k, .int .i64 op, .int .i64 a, .int .i64 b, .int .i64 c, .int .i64 i, .bool u] 23) ▸ Box.new l oq d f g j v (w.alloc (.cells #[.int .i64 k, .int .i64 op, .int .i64 a, .int .i64 b, .int .i64 c, .int .i64 i, .bool u] 23)))
  have H0 := Lib.hid (show Kept w ((w.alloc (.cells #[.int .i64 k, .int .i64 op, .int .i64 a, .int .i64 b, .int .i64 c, .int .i64 i, .bool u] 23)).alloc (.cells #[.int .i64 l, .int .i64 oq, .int .i64 d, .int .i64 f, .int .i64 g, .int .i64 j, .bool v] 23)) from ((Kept.refl w).alloc _ _).alloc _ _)
  go_enter Try.func9, Try.ntmps9
  go_wp2_with fail
  refine (shown_any _).mono ?_; rintro e w1 ⟨rfl, hK1⟩
  obtain ⟨j0, j1, j2, j3, j4, j5, j6⟩ := (X0.out.kept hK1).cells
  replace H0 := Lib.hid (H0.out.trans hK1)
  replace Y0 := Lib.hid (Y0.out.kept hK1)
  clear hK1
  go_wp2_with fail
  refine (CF.out _).mono ?_; rintro e w2 ⟨rfl, hK2⟩
  clear j0 j1 j2 j3 j4 j5 j6 X0
  replace H0 := Lib.hid ((H0.out.trans hK2).alloc #[.int .i64 (k'), .int .i64 (op'), .int .i64 (a'), .int .i64 (b'), .int .i64 (c'), .int .i64 (i'), .bool (u')] 23)
  have X1 := Lib.hid (Box.new k' op' a' b' c' i' u' w2)
  replace Y0 := Lib.hid ((Y0.out.kept hK2).alloc (.cells #[.int .i64 (k'), .int .i64 (op'), .int .i64 (a'), .int .i64 (b'), .int .i64 (c'), .int .i64 (i'), .bool (u')] 23))
  clear hK2
  go_upto_region 3 with (fail)
  have H0 := H0.out
  have X1 := X1.out
  have Y0 := Y0.out
  generalize (w2.alloc (.cells #[.int .i64 (k'), .int .i64 (op'), .int .i64 (a'), .int .i64 (b'), .int .i64 (c'), .int .i64 (i'), .bool (u')] 23)) = w3 at H0 X1 Y0 ⊢
  have H0 := Lib.hid H0
  have X1' := Lib.hid X1
  obtain ⟨j0, j1, j2, j3, j4, j5, j6⟩ := Y0.cells
  clear X1 Y0
  go_wp2_with fail
  refine (CG.out _).mono ?_; rintro e w4 ⟨rfl, hK4⟩
  clear j0 j1 j2 j3 j4 j5 j6
  replace H0 := Lib.hid ((H0.out.trans hK4).alloc #[.int .i64 (l'), .int .i64 (oq'), .int .i64 (d'), .int .i64 (f'), .int .i64 (g'), .int .i64 (j'), .bool (v')] 23)
  replace X1' := Lib.hid ((X1'.out.kept hK4).alloc (.cells #[.int .i64 (l'), .int .i64 (oq'), .int .i64 (d'), .int .i64 (f'), .int .i64 (g'), .int .i64 (j'), .bool (v')] 23))
  have Y1 := Lib.hid (Box.new l' oq' d' f' g' j' v' w4)
  clear hK4
  go_upto_region 4 with (fail)
  have H0 := H0.out
  have X1 := X1'.out
  have Y1 := Y1.out
  clear X1'
  generalize (w4.alloc (.cells #[.int .i64 (l'), .int .i64 (oq'), .int .i64 (d'), .int .i64 (f'), .int .i64 (g'), .int .i64 (j'), .bool (v')] 23)) = w5 at H0 X1 Y1 ⊢
  have H0 := Lib.hid H0
  have X1' := Lib.hid X1
  have Y1' := Lib.hid Y1
  obtain ⟨j0, j1, j2, j3, j4, j5, j6⟩ := X1.cells
  clear X1 Y1
  go_wp2_with fail
  refine (CE.out _).mono ?_; rintro e w6 ⟨rfl, hK6⟩
  clear j0 j1 j2 j3 j4 j5 j6
  replace H0 := Lib.hid (H0.out.trans hK6)
  replace X1' := Lib.hid (X1'.out.kept hK6)
  obtain ⟨j0, j1, j2, j3, j4, j5, j6⟩ := (Y1'.out.kept hK6).cells
  replace Y1' := Lib.hid (Y1'.out.kept hK6)
  clear hK6
  go_wp2_with fail
  refine (CD.out _).mono ?_; rintro e w7 ⟨rfl, hK7⟩
  clear j0 j1 j2 j3 j4 j5 j6
  replace H0 := Lib.hid (H0.out.trans hK7)
  obtain ⟨j0, j1, j2, j3, j4, j5, j6⟩ := (X1'.out.kept hK7).cells
  obtain ⟨l0, l1, l2, l3, l4, l5, l6⟩ := (Y1'.out.kept hK7).cells
  clear hK7
  go_wp2_with fail
  all_goals first
    | (exfalso; exact HNE.out ⟨by assumption, by assumption, by assumption, by assumption, by assumption, by assumption, by assumption⟩)
    | (go_ret; exact yesB rfl H0.out)
    | (go_ret; exact yesB (by simp) H0.out)
theorem walk_Unlike (k op a b c i l oq d f g j : Int) (u v : Bool) (w : World) :
    Calls Try.prog 9 #[.agg #[.int .i64 k, .int .i64 op, .int .i64 a, .int .i64 b, .int .i64 c, .int .i64 i, .bool u], .agg #[.int .i64 l, .int .i64 oq, .int .i64 d, .int .i64 f, .int .i64 g, .int .i64 j, .bool v]] w fun e w' => e = .returned (.bool true) ∧ Below w.heap.size w w' := by
  obtain ⟨k', op', a', b', c', i', u', hm, CF⟩ := fit_any k op a b c i u
  obtain ⟨l', oq', d', f', g', j', v', hn, CG⟩ := fit_any l oq d f g j v
  by_cases h : (⟨k', op', a', b', c', i', u'⟩ : I.Ins) = ⟨l', oq', d', f', g', j', v'⟩
  · simp only [I.Ins.mk.injEq] at h
    obtain ⟨rfl, rfl, rfl, rfl, rfl, rfl, rfl⟩ := h
    exact walk_Unlike_s k op a b c i l oq d f g j k' op' a' b' c' i' _ u v u' w (Lib.hid CF) (Lib.hid CG) (Lib.hid (enc_to k' op' a' b' c' i' _ u' hm rfl)) (Lib.hid (enc_to k' op' a' b' c' i' _ u' hm rfl))
  · have hw : ¬ I.word ⟨k', op', a', b', c', i', u'⟩ = I.word ⟨l', oq', d', f', g', j', v'⟩ := fun e => h (I.word_inj _ _ hm hn e)
    exact walk_Unlike_n k op a b c i l oq d f g j k' op' a' b' c' i' l' oq' d' f' g' j' _ _ u v u' v' (fun ⟨h1, h2, h3, h4, h5, h6, h7⟩ => h (I.ins_ext h1 h2 h3 h4 h5 h6 h7)) (by simpa using hw) hw w (Lib.hid CF) (Lib.hid CG) (Lib.hid (enc_to k' op' a' b' c' i' _ u' hm rfl)) (Lib.hid (enc_to l' oq' d' f' g' j' _ v' hn rfl))
end Go.Proofs.Ytliofphhoaopkaa
