/-
  The walk of ChainOne.
-/
import Derived.Test.YtgmiicincdmjdaaChQ
namespace Go.Proofs.Ytgmiicincdmjdaa
open Go.RowKit
set_option linter.unusedVariables false
set_option linter.unusedSimpArgs false
set_option maxRecDepth 100000
set_option maxHeartbeats 4000000 in
set_option maxRecDepth 100000 in
theorem walk_one (w : World) (n : Int) (n0 : 0 ≤ n) (n1 : n ≤ 255) (k0 k1 : Int) (k00 : 0 ≤ k0) (k01 : k0 ≤ 255) (k10 : 0 ≤ k1) (k11 : k1 ≤ 255) (x0 x1 : Int) (x00 : 0 ≤ x0) (x01 : x0 ≤ 65535) (x10 : 0 ≤ x1) (x11 : x1 ≤ 65535) :
    Calls Try.prog 7 #[.int .u8 n, .agg #[.int .u8 k0, .int .u8 k1], .agg #[.int .u16 x0, .int .u16 x1]] w fun e w' => e = .returned (.bool true) ∧ Below w.heap.size w w' := by
  obtain ⟨M, hM⟩ := Int.eq_ofNat_of_zero_le (show 0 ≤ n % 32 by omega)
  have hM32 : (M : Int) < 32 := by omega
  obtain ⟨T, hT⟩ : ∃ T : Nat, 2 + (M : Int) = T := ⟨2 + M, by omega⟩
  have hT2 : 2 ≤ T := by omega
  have hT33 : T ≤ 33 := by omega
  have hTz : ((T : Int) == 0) = false := by rw [beq_eq_false_iff_ne]; omega
  obtain ⟨I, hI⟩ := Int.eq_ofNat_of_zero_le (show 0 ≤ k0 % (T : Int) from Int.emod_nonneg _ (by omega))
  obtain ⟨J, hJ⟩ := Int.eq_ofNat_of_zero_le (show 0 ≤ k1 % (T : Int) from Int.emod_nonneg _ (by omega))
  have hIT : I < T := by have := Int.emod_lt_of_pos k0 (show (0 : Int) < T by omega); omega
  have hJT : J < T := by have := Int.emod_lt_of_pos k1 (show (0 : Int) < T by omega); omega
  obtain ⟨lo, hlo⟩ : ∃ lo : Nat, (if J < I then (J : Int) else (I : Int)) = lo := ⟨if J < I then J else I, by split <;> rfl⟩
  obtain ⟨hi, hhi⟩ : ∃ hi : Nat, (if I < J then (J : Int) else (I : Int)) = hi := ⟨if I < J then J else I, by split <;> rfl⟩
  have hlh : lo ≤ hi := by split at hlo <;> split at hhi <;> omega
  have hiT : hi < T := by split at hhi <;> omega
  have hK := Lib.hid ((Has.new #[.int .u8 k0, .int .u8 k1] 40 w).alloc (.cells #[.int .u16 x0, .int .u16 x1] 42))
  have hX := Lib.hid (Has.new1 #[.int .u16 x0, .int .u16 x1] 42 w (.cells #[.int .u8 k0, .int .u8 k1] 40))
  have hB := Lib.hid (Bel.trans (((Kept.refl w).alloc #[.int .u8 k0, .int .u8 k1] 40).below) (((Kept.refl (w.alloc (.cells #[.int .u8 k0, .int .u8 k1] 40))).alloc #[.int .u16 x0, .int .u16 x1] 42).below))
  go_enter Try.func7, Try.ntmps7
  go_wp2_with (fail)
  generalize (w.alloc (.cells #[.int .u8 k0, .int .u8 k1] 40)).alloc (.cells #[.int .u16 x0, .int .u16 x1] 42) = w0 at *
  refine (Ch.shown_any w0).mono ?_; rintro e w1 ⟨rfl, hE⟩
  replace hB := Lib.hid (Bel.trans hB.out hE)
  replace hX := Lib.hid (hX.out.below hE)
  have c0 := (hK.out.below hE).cell 0 _ rfl
  have c1 := (hK.out.below hE).cell 1 _ rfl
  clear hE hK
  go_upto_region 8 with (with_reducible refine make_rows rfl (.tmp 50) (.tmp 50) 22 rfl 37 Try.underlying22 Ch.info32 T T _ _ rfl rfl rfl rfl (Nat.le_refl _) (by omega) (by unfold maxLen; omega) ?_)
  have hO := Ow.full 37 .u32 w1 T (by unfold maxLen; omega)
  have hA := ((Kept.refl w1).alloc (madeCells #[.int .u32 0] T) 37).below
  have d0 : w1.cell? ⟨w.heap.size + 1, 0, none⟩ = some (.int .u16 x0) := hX.out.cell 0 _ rfl
  replace d0 := (hA.cell (p := ⟨w.heap.size + 1, 0, none⟩) hX.out.lt).trans d0
  have hzr : ∀ x ∈ List.replicate T (0 : Int), 0 ≤ x ∧ x < 4294967296 := fun x hx => by rw [List.eq_of_mem_replicate hx]; omega
  have hzl : (List.replicate T (0 : Int)).length = T := by simp
  clear c0 c1 hM hM32 hT hTz hI hJ hIT hJT hlo hhi k00 k01 k10 k11 n0 n1
  generalize List.replicate T (0 : Int) = zs at *
  generalize w1.alloc (.cells (madeCells #[.int .u32 0] T) 37) = w2 at *
  have hloT : lo < T := by omega
  have l1 : (lo : Int) < T := by omega
  have l2 : (hi : Int) < T := by omega
  have f1 := hO.free lo
  obtain ⟨v0, hv0⟩ := hO.cell lo hloT
  have hO3 := hO.set lo x0
  have hA3 := hA.setCell (p := ⟨w1.heap.size, lo, none⟩) (Nat.le_refl _) (.int .u32 x0)
  replace hO3 := Lib.hid hO3
  replace hA3 := Lib.hid hA3
  clear hO hA
  go_upto_region 9 with (fail)
  clear f1 hv0 d0
  generalize w2.setCell ⟨w1.heap.size, lo, none⟩ (.int .u32 x0) = w3 at *
  have d1 : w1.cell? ⟨w.heap.size + 1, 1, none⟩ = some (.int .u16 x1) := hX.out.cell 1 _ rfl
  replace d1 := (hA3.out.cell (p := ⟨w.heap.size + 1, 1, none⟩) hX.out.lt).trans d1
  have f1 := hO3.out.free hi
  obtain ⟨v1, hv1⟩ := hO3.out.cell hi hiT
  have hO4 := Lib.hid (hO3.out.set hi x1)
  have hA4 := Lib.hid (hA3.out.setCell (p := ⟨w1.heap.size, hi, none⟩) (Nat.le_refl _) (.int .u32 x1))
  clear hO3 hA3
  go_upto_region 10 with (fail)
  clear f1 hv1 d1
  generalize w3.setCell ⟨w1.heap.size, hi, none⟩ (.int .u32 x1) = w4 at *
  have hVl : ((zs.set lo x0).set hi x1).length = T := by rw [List.length_set, List.length_set, hzl]
  have hVr := Ch.set_rng (Ch.set_rng hzr lo x00 (by omega)) hi x10 (show x1 < 4294967296 by omega)
  have hVh : ((zs.set lo x0).set hi x1).getD hi 0 = x1 := by rw [Ch.getD_set, if_pos ⟨rfl, by rw [List.length_set, hzl]; exact hiT⟩]
  have hVo : lo < hi → ((zs.set lo x0).set hi x1).getD lo 0 = x0 := fun h => by rw [Ch.getD_set, if_neg (by omega), Ch.getD_set, if_pos ⟨rfl, by omega⟩]
  clear hzr hzl
  generalize (zs.set lo x0).set hi x1 = V at *
  replace hX := Lib.hid (hX.out.below hA4.out)
  replace hB := Lib.hid (Bel.trans hB.out hA4.out)
  have hW := Lib.hid (hO4.out.rw hVr)
  have hWb : w1.heap.size < w4.heap.size := hO4.out.lt
  clear hO4 hA4
  obtain ⟨r0, e1, e2, e3, hT1⟩ := Ch.one_site (V := V) (hi := hi) (by omega) (by omega) hVh x11
  generalize hgV : w1.heap.size = gV at *
  have hA5 := ((Kept.refl w4).alloc #[.int .i64 (hi : Int)] 3).below
  have hS5 := Lib.hid (Rg.one (Has.new #[.int .i64 (hi : Int)] 3 w4))
  replace hB := Lib.hid (Bel.trans hB.out hA5)
  replace hW := Lib.hid (hW.out.below hA5)
  replace hX := Lib.hid (hX.out.below hA5)
  clear hA5 r0
  go_wp2_with (fail)
  generalize w4.alloc (.cells #[.int .i64 (hi : Int)] 3) = w5 at *
  refine (Ch.pack_any hW.out hS5.out (by omega)).mono ?_; rintro e w6 ⟨A1, n1, c1, rfl, hP1, hE⟩
  rw [e1, e2]
  rw [e3] at hP1
  have hn1 : T = n1 := by have := hP1.len; rw [List.length_set] at this; omega
  subst hn1
  rcases hP1.cases with ⟨_, hbad, _⟩ | ⟨g1, rfl, hP⟩
  · omega
  replace hP : Ow 37 .u32 w5.heap.size g1 T c1 (V.set hi (x1 * 65536)) w6 := hP
  clear hP1 e1 e2 e3 hS5
  have gP := hP.at hi hiT
  rw [Ch.getD_set, if_pos ⟨rfl, by omega⟩] at gP
  have d1 : w5.cell? ⟨w.heap.size + 1, 1, none⟩ = some (.int .u16 x1) := hX.out.cell 1 _ rfl
  replace d1 := (hE.cell (p := ⟨w.heap.size + 1, 1, none⟩) hX.out.lt).trans d1
  have hq1 : (((hi : Int) + 1) != ((hi : Int) + 1)) = false := by simp
  have hq2 : ((T : Int) != (T : Int)) = false := by simp
  have hq3 : IntKind.i64.wrap ((hi : Int) + 1) = (hi : Int) + 1 := by rw [IntKind.wrap_i64]; omega
  have hq4 : IntKind.u32.wrap x1 = x1 := by rw [IntKind.wrap_u32]; omega
  have hq5 : IntKind.u32.wrap (x1 * 65536) = x1 * 65536 := by rw [IntKind.wrap_u32]; omega
  have hq6 : (x1 * 65536 != x1 * 65536) = false := by simp
  replace hP := Lib.hid hP.drew
  replace hE := Lib.hid hE.drew
  go_wp2_with (fail)
  refine WS.start 28 (by kernel_rfl) (by kernel_rfl) ?_
  intro w7 hw2
  replace gP := (show w6.drew.cell? _ = some _ from gP)
  rw [← hw2] at gP
  replace d1 := (show w6.drew.cell? _ = some _ from d1)
  rw [← hw2] at d1
  rw [← hw2] at hE
  replace hP := (show Hid (Ow _ _ _ _ _ _ _ w6.drew) from hP)
  rw [← hw2] at hP
  clear hw2
  simp only [List.take_succ_cons, List.take_zero, List.drop_succ_cons, List.drop_zero]
  refine WS.step rfl (fun K hK => ?_); go_simp; (try (simp only [hq1, hq2, hq3, hq4, hq5, hq6]; (try go_simp))); refine hK _ ?_; clear hK K
  refine WS.step rfl (fun K hK => ?_); go_simp; (try (simp only [hq1, hq2, hq3, hq4, hq5, hq6]; (try go_simp))); refine hK _ ?_; clear hK K
  refine WS.step rfl (fun K hK => ?_); go_simp; (try (simp only [hq1, hq2, hq3, hq4, hq5, hq6]; (try go_simp))); refine hK _ ?_; clear hK K
  refine WS.want rfl (fun K hK => ?_); go_simp; (try (simp only [hq1, hq2, hq3, hq4, hq5, hq6]; (try go_simp))); refine hK _ ?_; clear hK K
  refine WS.want rfl (fun K hK => ?_); go_simp; (try (simp only [hq1, hq2, hq3, hq4, hq5, hq6]; (try go_simp))); refine hK _ ?_; clear hK K
  refine WS.step rfl (fun K hK => ?_); go_simp; (try (simp only [hq1, hq2, hq3, hq4, hq5, hq6]; (try go_simp))); refine hK _ ?_; clear hK K
  refine WS.step rfl (fun K hK => ?_); go_simp; (try (simp only [hq1, hq2, hq3, hq4, hq5, hq6]; (try go_simp))); refine hK _ ?_; clear hK K
  refine WS.want rfl (fun K hK => ?_); go_simp; (try (simp only [hq1, hq2, hq3, hq4, hq5, hq6]; (try go_simp))); refine hK _ ?_; clear hK K
  refine WS.want rfl (fun K hK => ?_); go_simp; (try (simp only [hq1, hq2, hq3, hq4, hq5, hq6]; (try go_simp))); refine hK _ ?_; clear hK K
  refine WS.want rfl (fun K hK => ?_); go_simp; (try (simp only [hq1, hq2, hq3, hq4, hq5, hq6]; (try go_simp))); refine hK _ ?_; clear hK K
  refine WS.want rfl (fun K hK => ?_); go_simp; (try (simp only [hq1, hq2, hq3, hq4, hq5, hq6]; (try go_simp))); refine hK _ ?_; clear hK K
  refine WS.step rfl (fun K hK => ?_); go_simp; (try (simp only [hq1, hq2, hq3, hq4, hq5, hq6]; (try go_simp))); refine hK _ ?_; clear hK K
  refine WS.step rfl (fun K hK => ?_); go_simp; (try (simp only [hq1, hq2, hq3, hq4, hq5, hq6]; (try go_simp))); refine hK _ ?_; clear hK K
  refine WS.want rfl (fun K hK => ?_); go_simp; (try (simp only [hq1, hq2, hq3, hq4, hq5, hq6]; (try go_simp))); refine hK _ ?_; clear hK K
  refine WS.want rfl (fun K hK => ?_); go_simp; (try (simp only [hq1, hq2, hq3, hq4, hq5, hq6]; (try go_simp))); refine hK _ ?_; clear hK K
  refine WS.want rfl (fun K hK => ?_); go_simp; (try (simp only [hq1, hq2, hq3, hq4, hq5, hq6]; (try go_simp))); refine hK _ ?_; clear hK K
  refine WS.want rfl (fun K hK => ?_); go_simp; (try (simp only [hq1, hq2, hq3, hq4, hq5, hq6]; (try go_simp))); refine hK _ ?_; clear hK K
  refine WS.step rfl (fun K hK => ?_); go_simp; (try (simp only [hq1, hq2, hq3, hq4, hq5, hq6]; (try go_simp))); refine hK _ ?_; clear hK K
  refine WS.step rfl (fun K hK => ?_); go_simp; (try (simp only [hq1, hq2, hq3, hq4, hq5, hq6]; (try go_simp))); refine hK _ ?_; clear hK K
  refine WS.want rfl (fun K hK => ?_); go_simp; (try (simp only [hq1, hq2, hq3, hq4, hq5, hq6]; (try go_simp))); refine hK _ ?_; clear hK K
  refine WS.want rfl (fun K hK => ?_); go_simp; (try (simp only [hq1, hq2, hq3, hq4, hq5, hq6]; (try go_simp))); refine hK _ ?_; clear hK K
  refine WS.want rfl (fun K hK => ?_); go_simp; (try (simp only [hq1, hq2, hq3, hq4, hq5, hq6]; (try go_simp))); refine hK _ ?_; clear hK K
  refine WS.want rfl (fun K hK => ?_); go_simp; (try (simp only [hq1, hq2, hq3, hq4, hq5, hq6]; (try go_simp))); refine hK _ ?_; clear hK K
  refine WS.want rfl (fun K hK => ?_); go_simp; (try (simp only [hq1, hq2, hq3, hq4, hq5, hq6]; (try go_simp))); refine hK _ ?_; clear hK K
  refine WS.want rfl (fun K hK => ?_); go_simp; (try (simp only [hq1, hq2, hq3, hq4, hq5, hq6]; (try go_simp))); refine hK _ ?_; clear hK K
  refine WS.want rfl (fun K hK => ?_); go_simp; (try (simp only [hq1, hq2, hq3, hq4, hq5, hq6]; (try go_simp))); refine hK _ ?_; clear hK K
  refine WS.want rfl (fun K hK => ?_); go_simp; (try (simp only [hq1, hq2, hq3, hq4, hq5, hq6]; (try go_simp))); refine hK _ ?_; clear hK K
  refine WS.want rfl (fun K hK => ?_); go_simp; (try (simp only [hq1, hq2, hq3, hq4, hq5, hq6]; (try go_simp))); refine hK _ ?_; clear hK K
  refine WS.nil ?_
  clear d1 hq1 hq2 hq6
  have f5 := hP.out.free hi
  have hb1 := hP.out.has.1
  have hJ := Lib.hid (Ch.or_join x1 ((hi : Int) + 1) x10 x11 (by omega) (by omega))
  have hx0 : 0 ≤ x1 * 65536 + ((hi : Int) + 1) ∧ x1 * 65536 + ((hi : Int) + 1) < 4294967296 := by omega
  have hO8 := hP.out.set hi (x1 * 65536 + ((hi : Int) + 1))
  have hY8 := Lib.hid (hO8.rw (L := 4294967296) (Ch.set_rng (Ch.set_rng hVr hi (show 0 ≤ x1 * 65536 by omega) (by omega)) hi hx0.1 hx0.2))
  have hE8 := Lib.hid (hE.out.setCell (p := ⟨g1, hi, none⟩) hb1 (.int .u32 (x1 * 65536 + ((hi : Int) + 1))))
  have R := Lib.hid (hT1 (x1 * 65536 + ((hi : Int) + 1)) (by omega))
  clear hO8 hP hE hb1 hT1 hx0
  generalize hz8 : w7.setCell ⟨g1, hi, none⟩ (.int .u32 (x1 * 65536 + ((hi : Int) + 1))) = w8 at *
  replace hz8 := Lib.hid hz8
  go_upto_region 14 with (fail)
  rw [hJ.out, hz8.out]
  clear gP f5 hJ hz8
  replace hB := Lib.hid (Bel.trans hB.out hE8.out)
  replace hW := Lib.hid (hW.out.below hE8.out)
  replace hX := Lib.hid (hX.out.below hE8.out)
  clear hE8
  go_wp2_with (fail)
  refine (Ch.unpack_any hY8.out (by omega) _).mono ?_; rintro e w9 ⟨A5, n5, c5, B5, m5, d5, rfl, _, _, hE⟩
  rw [Ch.uE_10 R.out]
  replace hB := Lib.hid (Bel.trans hB.out hE)
  replace hW := Lib.hid (hW.out.below hE)
  replace hX := Lib.hid (hX.out.below hE)
  clear hE hY8 R
  by_cases hc : lo = hi
  · subst hc
    have hc1 : ((lo : Int) == (lo : Int)) = true := by simp
    have hA5 := ((Kept.refl w9).alloc #[.int .i64 (lo : Int), .int .i64 (lo : Int)] 3).below
    have hS5 := Lib.hid (Rg.two (Has.new #[.int .i64 (lo : Int), .int .i64 (lo : Int)] 3 w9))
    replace hB := Lib.hid (Bel.trans hB.out hA5)
    replace hW := Lib.hid (hW.out.below hA5)
    clear hA5 hq3 hq4 hq5
    go_wp2_with (fail)
    generalize w9.alloc (.cells #[.int .i64 (lo : Int), .int .i64 (lo : Int)] 3) = w10 at *
    refine (Ch.pack_any hW.out hS5.out (by omega)).mono ?_; rintro e w11 ⟨A6, n6, c6, rfl, _, hE⟩
    rw [Ch.pE_7 (Ch.not_down (Int.le_refl _))]
    replace hB := Lib.hid (Bel.trans hB.out hE)
    clear hE hW hS5
    go_wp2
    go_ret
    exact ⟨rfl, hB.out⟩
  · have hc0 : lo < hi := by omega
    have hc1 : ((lo : Int) == (hi : Int)) = false := by rw [beq_eq_false_iff_ne]; omega
    obtain ⟨e1, e2, e3⟩ := Ch.two_sites (V := V) hc0 (by omega) (by omega) (hVo hc0) hVh x01 x11
    have hA5 := ((Kept.refl w9).alloc #[.int .i64 (lo : Int), .int .i64 (hi : Int)] 3).below
    have hS5 := Lib.hid (Rg.two (Has.new #[.int .i64 (lo : Int), .int .i64 (hi : Int)] 3 w9))
    replace hB := Lib.hid (Bel.trans hB.out hA5)
    replace hW := Lib.hid (hW.out.below hA5)
    replace hX := Lib.hid (hX.out.below hA5)
    clear hA5 hc
    go_wp2_with (fail)
    generalize w9.alloc (.cells #[.int .i64 (lo : Int), .int .i64 (hi : Int)] 3) = w10 at *
    refine (Ch.pack_any hW.out hS5.out (by omega)).mono ?_; rintro e w11 ⟨A6, n6, c6, rfl, hP1, hE⟩
    rw [e1, e2]
    rw [e3] at hP1
    have hn6 : T = n6 := by have := hP1.len; rw [List.length_set, List.length_set] at this; omega
    subst hn6
    rcases hP1.cases with ⟨_, hbad, _⟩ | ⟨g2, rfl, hP⟩
    · omega
    replace hP : Ow 37 .u32 w10.heap.size g2 T c6 ((V.set lo (x0 * 65536)).set hi (x1 * 65536 + ((lo : Int) + 1))) w11 := hP
    replace hP := Lib.hid hP
    replace hB := Lib.hid (Bel.trans hB.out hE)
    replace hW := Lib.hid (hW.out.below hE)
    replace hX := Lib.hid (hX.out.below hE)
    clear hP1 e1 e2 e3 hS5 hE
    have hA5 := ((Kept.refl w11).alloc #[.int .i64 (hi : Int), .int .i64 (lo : Int)] 3).below
    have hS5 := Lib.hid (Rg.two (Has.new #[.int .i64 (hi : Int), .int .i64 (lo : Int)] 3 w11))
    replace hB := Lib.hid (Bel.trans hB.out hA5)
    replace hW := Lib.hid (hW.out.below hA5)
    replace hX := Lib.hid (hX.out.below hA5)
    replace hP := Lib.hid (hP.out.below hA5)
    clear hA5
    go_wp2_with (fail)
    generalize w11.alloc (.cells #[.int .i64 (hi : Int), .int .i64 (lo : Int)] 3) = w12 at *
    refine (Ch.pack_any hW.out hS5.out (by omega)).mono ?_; rintro e w13 ⟨A7, n7, c7, rfl, _, hE⟩
    rw [Ch.pE_7 (Ch.not_down (by omega))]
    replace hB := Lib.hid (Bel.trans hB.out hE)
    replace hX := Lib.hid (hX.out.below hE)
    replace hP := Lib.hid (hP.out.below hE)
    clear hE hW hS5
    have gP := hP.out.at hi hiT
    rw [Ch.getD_set, if_pos ⟨rfl, by rw [List.length_set]; omega⟩] at gP
    have gQ := hP.out.at lo (by omega)
    rw [Ch.getD_set, if_neg (by omega), Ch.getD_set, if_pos ⟨rfl, by omega⟩] at gQ
    have d1 : w13.cell? ⟨w.heap.size + 1, 1, none⟩ = some (.int .u16 x1) := hX.out.cell 1 _ rfl
    have d0 : w13.cell? ⟨w.heap.size + 1, 0, none⟩ = some (.int .u16 x0) := hX.out.cell 0 _ rfl
    have hq1 : (((hi : Int) + 1) == ((hi : Int) + 1)) = true := by simp
    have hq2 : ((T : Int) == (T : Int)) = true := by simp
    have hq6 : IntKind.u32.wrap x0 = x0 := by rw [IntKind.wrap_u32]; omega
    have hq7 : IntKind.u32.wrap (x0 * 65536) = x0 * 65536 := by rw [IntKind.wrap_u32]; omega
    have hq8 : (x0 * 65536 == x0 * 65536) = true := by simp
    have hq9 : IntKind.i64.wrap ((lo : Int) + 1) = (lo : Int) + 1 := by rw [IntKind.wrap_i64]; omega
    have hq10 : IntKind.u32.wrap ((lo : Int) + 1) = (lo : Int) + 1 := by rw [IntKind.wrap_u32]; omega
    have hq11 := Ch.or_join x1 ((lo : Int) + 1) x10 x11 (by omega) (by omega)
    have hq12 : (x1 * 65536 + ((lo : Int) + 1) == x1 * 65536 + ((lo : Int) + 1)) = true := by simp
    clear hP hX hVo hVh hVr
    go_wp2_with (fail)
    refine WS.start 48 (by kernel_rfl) (by kernel_rfl) ?_
    intro w14 hw2
    replace gP := (show w13.drew.cell? _ = some _ from gP)
    rw [← hw2] at gP
    replace gQ := (show w13.drew.cell? _ = some _ from gQ)
    rw [← hw2] at gQ
    replace d1 := (show w13.drew.cell? _ = some _ from d1)
    rw [← hw2] at d1
    replace d0 := (show w13.drew.cell? _ = some _ from d0)
    rw [← hw2] at d0
    replace hB := Lib.hid (show Below w.heap.size w w14 by rw [hw2]; exact hB.out.drew)
    clear hw2
    simp only [List.take_succ_cons, List.take_zero, List.drop_succ_cons, List.drop_zero]
    refine WS.step rfl (fun K hK => ?_); go_simp; (try (simp only [hq1, hq2, hq3, hq4, hq5, hq6, hq7, hq8, hq9, hq10, hq11, hq12]; (try go_simp))); refine hK _ ?_; clear hK K
    refine WS.step rfl (fun K hK => ?_); go_simp; (try (simp only [hq1, hq2, hq3, hq4, hq5, hq6, hq7, hq8, hq9, hq10, hq11, hq12]; (try go_simp))); refine hK _ ?_; clear hK K
    refine WS.step rfl (fun K hK => ?_); go_simp; (try (simp only [hq1, hq2, hq3, hq4, hq5, hq6, hq7, hq8, hq9, hq10, hq11, hq12]; (try go_simp))); refine hK _ ?_; clear hK K
    refine WS.want rfl (fun K hK => ?_); go_simp; (try (simp only [hq1, hq2, hq3, hq4, hq5, hq6, hq7, hq8, hq9, hq10, hq11, hq12]; (try go_simp))); refine hK _ ?_; clear hK K
    refine WS.want rfl (fun K hK => ?_); go_simp; (try (simp only [hq1, hq2, hq3, hq4, hq5, hq6, hq7, hq8, hq9, hq10, hq11, hq12]; (try go_simp))); refine hK _ ?_; clear hK K
    refine WS.step rfl (fun K hK => ?_); go_simp; (try (simp only [hq1, hq2, hq3, hq4, hq5, hq6, hq7, hq8, hq9, hq10, hq11, hq12]; (try go_simp))); refine hK _ ?_; clear hK K
    refine WS.step rfl (fun K hK => ?_); go_simp; (try (simp only [hq1, hq2, hq3, hq4, hq5, hq6, hq7, hq8, hq9, hq10, hq11, hq12]; (try go_simp))); refine hK _ ?_; clear hK K
    refine WS.want rfl (fun K hK => ?_); go_simp; (try (simp only [hq1, hq2, hq3, hq4, hq5, hq6, hq7, hq8, hq9, hq10, hq11, hq12]; (try go_simp))); refine hK _ ?_; clear hK K
    refine WS.want rfl (fun K hK => ?_); go_simp; (try (simp only [hq1, hq2, hq3, hq4, hq5, hq6, hq7, hq8, hq9, hq10, hq11, hq12]; (try go_simp))); refine hK _ ?_; clear hK K
    refine WS.want rfl (fun K hK => ?_); go_simp; (try (simp only [hq1, hq2, hq3, hq4, hq5, hq6, hq7, hq8, hq9, hq10, hq11, hq12]; (try go_simp))); refine hK _ ?_; clear hK K
    refine WS.want rfl (fun K hK => ?_); go_simp; (try (simp only [hq1, hq2, hq3, hq4, hq5, hq6, hq7, hq8, hq9, hq10, hq11, hq12]; (try go_simp))); refine hK _ ?_; clear hK K
    refine WS.step rfl (fun K hK => ?_); go_simp; (try (simp only [hq1, hq2, hq3, hq4, hq5, hq6, hq7, hq8, hq9, hq10, hq11, hq12]; (try go_simp))); refine hK _ ?_; clear hK K
    refine WS.step rfl (fun K hK => ?_); go_simp; (try (simp only [hq1, hq2, hq3, hq4, hq5, hq6, hq7, hq8, hq9, hq10, hq11, hq12]; (try go_simp))); refine hK _ ?_; clear hK K
    refine WS.want rfl (fun K hK => ?_); go_simp; (try (simp only [hq1, hq2, hq3, hq4, hq5, hq6, hq7, hq8, hq9, hq10, hq11, hq12]; (try go_simp))); refine hK _ ?_; clear hK K
    refine WS.want rfl (fun K hK => ?_); go_simp; (try (simp only [hq1, hq2, hq3, hq4, hq5, hq6, hq7, hq8, hq9, hq10, hq11, hq12]; (try go_simp))); refine hK _ ?_; clear hK K
    refine WS.want rfl (fun K hK => ?_); go_simp; (try (simp only [hq1, hq2, hq3, hq4, hq5, hq6, hq7, hq8, hq9, hq10, hq11, hq12]; (try go_simp))); refine hK _ ?_; clear hK K
    refine WS.want rfl (fun K hK => ?_); go_simp; (try (simp only [hq1, hq2, hq3, hq4, hq5, hq6, hq7, hq8, hq9, hq10, hq11, hq12]; (try go_simp))); refine hK _ ?_; clear hK K
    refine WS.step rfl (fun K hK => ?_); go_simp; (try (simp only [hq1, hq2, hq3, hq4, hq5, hq6, hq7, hq8, hq9, hq10, hq11, hq12]; (try go_simp))); refine hK _ ?_; clear hK K
    refine WS.step rfl (fun K hK => ?_); go_simp; (try (simp only [hq1, hq2, hq3, hq4, hq5, hq6, hq7, hq8, hq9, hq10, hq11, hq12]; (try go_simp))); refine hK _ ?_; clear hK K
    refine WS.want rfl (fun K hK => ?_); go_simp; (try (simp only [hq1, hq2, hq3, hq4, hq5, hq6, hq7, hq8, hq9, hq10, hq11, hq12]; (try go_simp))); refine hK _ ?_; clear hK K
    refine WS.want rfl (fun K hK => ?_); go_simp; (try (simp only [hq1, hq2, hq3, hq4, hq5, hq6, hq7, hq8, hq9, hq10, hq11, hq12]; (try go_simp))); refine hK _ ?_; clear hK K
    refine WS.want rfl (fun K hK => ?_); go_simp; (try (simp only [hq1, hq2, hq3, hq4, hq5, hq6, hq7, hq8, hq9, hq10, hq11, hq12]; (try go_simp))); refine hK _ ?_; clear hK K
    refine WS.want rfl (fun K hK => ?_); go_simp; (try (simp only [hq1, hq2, hq3, hq4, hq5, hq6, hq7, hq8, hq9, hq10, hq11, hq12]; (try go_simp))); refine hK _ ?_; clear hK K
    refine WS.want rfl (fun K hK => ?_); go_simp; (try (simp only [hq1, hq2, hq3, hq4, hq5, hq6, hq7, hq8, hq9, hq10, hq11, hq12]; (try go_simp))); refine hK _ ?_; clear hK K
    refine WS.want rfl (fun K hK => ?_); go_simp; (try (simp only [hq1, hq2, hq3, hq4, hq5, hq6, hq7, hq8, hq9, hq10, hq11, hq12]; (try go_simp))); refine hK _ ?_; clear hK K
    refine WS.want rfl (fun K hK => ?_); go_simp; (try (simp only [hq1, hq2, hq3, hq4, hq5, hq6, hq7, hq8, hq9, hq10, hq11, hq12]; (try go_simp))); refine hK _ ?_; clear hK K
    refine WS.want rfl (fun K hK => ?_); go_simp; (try (simp only [hq1, hq2, hq3, hq4, hq5, hq6, hq7, hq8, hq9, hq10, hq11, hq12]; (try go_simp))); refine hK _ ?_; clear hK K
    refine WS.want rfl (fun K hK => ?_); go_simp; (try (simp only [hq1, hq2, hq3, hq4, hq5, hq6, hq7, hq8, hq9, hq10, hq11, hq12]; (try go_simp))); refine hK _ ?_; clear hK K
    refine WS.want rfl (fun K hK => ?_); go_simp; (try (simp only [hq1, hq2, hq3, hq4, hq5, hq6, hq7, hq8, hq9, hq10, hq11, hq12]; (try go_simp))); refine hK _ ?_; clear hK K
    refine WS.want rfl (fun K hK => ?_); go_simp; (try (simp only [hq1, hq2, hq3, hq4, hq5, hq6, hq7, hq8, hq9, hq10, hq11, hq12]; (try go_simp))); refine hK _ ?_; clear hK K
    refine WS.want rfl (fun K hK => ?_); go_simp; (try (simp only [hq1, hq2, hq3, hq4, hq5, hq6, hq7, hq8, hq9, hq10, hq11, hq12]; (try go_simp))); refine hK _ ?_; clear hK K
    refine WS.want rfl (fun K hK => ?_); go_simp; (try (simp only [hq1, hq2, hq3, hq4, hq5, hq6, hq7, hq8, hq9, hq10, hq11, hq12]; (try go_simp))); refine hK _ ?_; clear hK K
    refine WS.step rfl (fun K hK => ?_); go_simp; (try (simp only [hq1, hq2, hq3, hq4, hq5, hq6, hq7, hq8, hq9, hq10, hq11, hq12]; (try go_simp))); refine hK _ ?_; clear hK K
    refine WS.step rfl (fun K hK => ?_); go_simp; (try (simp only [hq1, hq2, hq3, hq4, hq5, hq6, hq7, hq8, hq9, hq10, hq11, hq12]; (try go_simp))); refine hK _ ?_; clear hK K
    refine WS.want rfl (fun K hK => ?_); go_simp; (try (simp only [hq1, hq2, hq3, hq4, hq5, hq6, hq7, hq8, hq9, hq10, hq11, hq12]; (try go_simp))); refine hK _ ?_; clear hK K
    refine WS.want rfl (fun K hK => ?_); go_simp; (try (simp only [hq1, hq2, hq3, hq4, hq5, hq6, hq7, hq8, hq9, hq10, hq11, hq12]; (try go_simp))); refine hK _ ?_; clear hK K
    refine WS.want rfl (fun K hK => ?_); go_simp; (try (simp only [hq1, hq2, hq3, hq4, hq5, hq6, hq7, hq8, hq9, hq10, hq11, hq12]; (try go_simp))); refine hK _ ?_; clear hK K
    refine WS.want rfl (fun K hK => ?_); go_simp; (try (simp only [hq1, hq2, hq3, hq4, hq5, hq6, hq7, hq8, hq9, hq10, hq11, hq12]; (try go_simp))); refine hK _ ?_; clear hK K
    refine WS.want rfl (fun K hK => ?_); go_simp; (try (simp only [hq1, hq2, hq3, hq4, hq5, hq6, hq7, hq8, hq9, hq10, hq11, hq12]; (try go_simp))); refine hK _ ?_; clear hK K
    refine WS.want rfl (fun K hK => ?_); go_simp; (try (simp only [hq1, hq2, hq3, hq4, hq5, hq6, hq7, hq8, hq9, hq10, hq11, hq12]; (try go_simp))); refine hK _ ?_; clear hK K
    refine WS.want rfl (fun K hK => ?_); go_simp; (try (simp only [hq1, hq2, hq3, hq4, hq5, hq6, hq7, hq8, hq9, hq10, hq11, hq12]; (try go_simp))); refine hK _ ?_; clear hK K
    refine WS.want rfl (fun K hK => ?_); go_simp; (try (simp only [hq1, hq2, hq3, hq4, hq5, hq6, hq7, hq8, hq9, hq10, hq11, hq12]; (try go_simp))); refine hK _ ?_; clear hK K
    refine WS.want rfl (fun K hK => ?_); go_simp; (try (simp only [hq1, hq2, hq3, hq4, hq5, hq6, hq7, hq8, hq9, hq10, hq11, hq12]; (try go_simp))); refine hK _ ?_; clear hK K
    refine WS.step rfl (fun K hK => ?_); go_simp; (try (simp only [hq1, hq2, hq3, hq4, hq5, hq6, hq7, hq8, hq9, hq10, hq11, hq12]; (try go_simp))); refine hK _ ?_; clear hK K
    refine WS.step rfl (fun K hK => ?_); go_simp; (try (simp only [hq1, hq2, hq3, hq4, hq5, hq6, hq7, hq8, hq9, hq10, hq11, hq12]; (try go_simp))); refine hK _ ?_; clear hK K
    refine WS.want rfl (fun K hK => ?_); go_simp; (try (simp only [hq1, hq2, hq3, hq4, hq5, hq6, hq7, hq8, hq9, hq10, hq11, hq12]; (try go_simp))); refine hK _ ?_; clear hK K
    refine WS.want rfl (fun K hK => ?_); go_simp; (try (simp only [hq1, hq2, hq3, hq4, hq5, hq6, hq7, hq8, hq9, hq10, hq11, hq12]; (try go_simp))); refine hK _ ?_; clear hK K
    refine WS.step rfl (fun K hK => ?_); go_simp; (try (simp only [hq1, hq2, hq3, hq4, hq5, hq6, hq7, hq8, hq9, hq10, hq11, hq12]; (try go_simp))); refine hK _ ?_; clear hK K
    refine WS.nil ?_
    clear gP gQ d0 d1
    go_wp2
    go_ret
    exact ⟨rfl, hB.out⟩
end Go.Proofs.Ytgmiicincdmjdaa
