/-
  The walk of ChainBack.
-/
import Derived.Test.YtgmiicincdmjdaaChQ
namespace Go.Proofs.Ytgmiicincdmjdaa
open Go.RowKit
set_option linter.unusedVariables false
set_option linter.unusedSimpArgs false
set_option maxRecDepth 100000
set_option maxHeartbeats 4000000 in
set_option maxRecDepth 100000 in
theorem walk_back (w : World) (A : Option Addr) (n c : Nat) (xs : List Int) (hx : Wo w A n c xs) (B : Option Addr) (m d : Nat) (bs0 : List Int) (hb : By w B m d bs0) :
    Calls Try.prog 4 #[.slice A n c, .slice B m d] w fun e w' => e = .returned (.bool true) ∧ Below w.heap.size w w' := by
  have hX0 := Lib.hid hx
  have hX := hx.take (min n 30) (by omega)
  have k30 : min n 30 ≤ 30 := by omega
  generalize hmn : min n 30 = k at *
  replace hmn := Lib.hid hmn
  generalize xs.take k = ys at *
  have hXl := hX.len
  replace hX := Lib.hid hX
  clear hx
  replace hb := Lib.hid hb
  go_enter Try.func4, Try.ntmps4
  go_wp2_with (fail)
  refine (Ch.shown_any w).mono ?_; rintro e w1 ⟨rfl, hB⟩
  replace hB := Lib.hid hB
  have hO := Ow.new 37 .u32 w1 w1.heap.size (Nat.le_refl _)
  have hE := ((Kept.refl w1).alloc #[] 37).below
  have hs0 : w1.heap.size ≤ (w1.alloc (.cells #[] 37)).heap.size := hE.size
  have hg := hO.has.1
  replace hO := Lib.hid hO
  replace hE := Lib.hid hE
  go_wp2_with (fail)
  refine (Ch.few_any _ A n c xs (hX0.out.below (Bel.trans hB.out hE.out))).mono ?_; rintro e wq ⟨rfl, rfl⟩
  rw [hmn.out]
  have hyr := Lib.hid hX.out.rng
  have hR1 := Lib.hid ((hX.out.below (Bel.trans hB.out hE.out)).rg)
  clear hX0 hmn
  go_wp2_with (with_reducible refine append_rg (o := ⟨some 26, _, _, _, _, _⟩) Try.underlying22 Ch.info32 (by omega) rfl (.tmp 23) (.tmp 25) rfl w1.heap.size w1.heap.size 0 0 [] rfl hO.out _ k c ys rfl hR1.out (by omega) hs0 ?_; intro g cap w3 hO3 hG3)
  rw [List.nil_append, Nat.zero_add] at hO3
  (try rw [Nat.zero_add])
  replace hE := Lib.hid (hE.out.grown hG3 hs0 (fun q e => by cases e; exact hg))
  replace hO := Lib.hid hO3
  clear hO3 hG3 hR1 hs0 hg hX
  have hB0 := hB
  have hb0 : w1.heap.size ≤ g := hO.out.has.1
  have hz1 := hE.out.size
  replace hB := Lib.hid (Bel.trans hB.out hE.out)
  replace hO := Lib.hid (hO.out)
  have hE0 := hE
  clear hE
  go_wp2_with (fail)
  refine (Ch.fit_any (hb.out.below hB.out) k (by omega)).mono ?_; rintro e wn ⟨gS, cS, rfl, hS, hE⟩
  replace hB := Lib.hid (Bel.trans hB.out hE)
  replace hO := Lib.hid (hO.out.below hE)
  replace hE0 := Lib.hid (Bel.trans hE0.out hE)
  clear hE
  have hRis := (Ch.fit_rises bs0 ys.length (by omega) (min k m) (by omega)).1
  have hSm := Ch.fit_len bs0 (min k m)
  generalize Ch.fit bs0 (min k m) = S at *
  generalize hSl : S.length = q at *
  replace hRis := Lib.hid hRis
  replace hS := Lib.hid hS
  go_wp2
  go_loopw [8] (fun i wr => ∃ (p : Nat) (vs : List Int), p ≤ q ∧ i = .int .i64 (p : Int) ∧ Ow 37 .u32 w1.heap.size g k cap vs wr ∧ Ow 3 .i64 w3.heap.size gS q cS S wr ∧ (∀ x ∈ vs, 0 ≤ x ∧ x < 4294967296) ∧ (∀ j, j < p → vs.getD (S.getD j 0).toNat 0 ≤ 65535) ∧ Below w1.heap.size w1 wr) (fun i _ => q - (intOf i).toNat)
  case atStart => exact ⟨0, ys, Nat.zero_le _, rfl, hO.out, hS.out, hyr.out, fun j hj => by omega, hE0.out⟩
  case round =>
    clear hO hE0 hyr hB hS
    obtain ⟨p, vs, hp, rfl, hO, hS, hvr, hvf, hE⟩ := hrel
    have hvl := hO.rg.len
    by_cases d1 : p < q
    · have d2 : (p : Int) < q := by omega
      obtain ⟨s, hs1, hs2, hs3⟩ := Ch.rsite_nat hRis.out p (by omega)
      rw [hXl] at hs2
      have g1 := hS.at p d1
      rw [hs1] at g1
      have g2 := hO.at s hs2
      have f1 := hO.free s
      have hsn : (s : Int) < k := by omega
      have hx : 0 ≤ vs.getD s 0 ∧ vs.getD s 0 < 4294967296 := (hO.rw hvr).atR (by decide) s
      have hm := Ch.and_low (vs.getD s 0) hx.1 hx.2
      have hO2 := Lib.hid ((hO.drew).set s (vs.getD s 0 % 65536))
      have hS2 := Lib.hid ((show Ow 3 .i64 w3.heap.size gS q cS S wr.drew from hS.drew).to (w' := wr.drew.setCell ⟨g, s, none⟩ (.int .u32 (vs.getD s 0 % 65536))) (Below.heap_setCell _ _ _ _ (hS.apart hO (by decide))))
      have hE2 := Lib.hid ((hE.drew).setCell (p := ⟨g, s, none⟩) hb0 (.int .u32 (vs.getD s 0 % 65536)))
      have hr2 := Lib.hid (show ∀ x ∈ vs.set s (vs.getD s 0 % 65536), 0 ≤ x ∧ x < 4294967296 from fun x hx => (mem_set hx).elim (hvr x) (fun e => by rw [e]; omega))
      have hf2 := Lib.hid (Ch.set_fits (k := p) (q := s) hvf (by rw [hs1, Int.toNat_natCast]) (show vs.getD s 0 % 65536 ≤ 65535 by omega) (by omega))
      clear hO hE hvr hvf hS hs1 hx
      generalize vs.getD s 0 = x at *
      replace hm := Lib.hid hm
      go_wp2_with (fail)
      refine WS.start 14 (by kernel_rfl) (by kernel_rfl) ?_
      intro w5 hw5
      replace g1 := (show wr.drew.cell? _ = some _ from g1)
      rw [← hw5] at g1
      replace g2 := (show wr.drew.cell? _ = some _ from g2)
      rw [← hw5] at g2
      replace f1 := (show wr.drew.frozen? _ = _ from f1)
      rw [← hw5] at f1
      replace hO2 := Lib.hid hO2.out
      rw [← hw5] at hO2 hS2 hE2
      clear hw5
      simp only [List.take_succ_cons, List.take_zero, List.drop_succ_cons, List.drop_zero]
      refine WS.step rfl (fun K hK => ?_); go_simp; refine hK _ ?_; clear hK K
      refine WS.step rfl (fun K hK => ?_); go_simp; refine hK _ ?_; clear hK K
      refine WS.step rfl (fun K hK => ?_); go_simp; refine hK _ ?_; clear hK K
      refine WS.step rfl (fun K hK => ?_); go_simp; refine hK _ ?_; clear hK K
      refine WS.step rfl (fun K hK => ?_); go_simp; refine hK _ ?_; clear hK K
      refine WS.step rfl (fun K hK => ?_); go_simp; refine hK _ ?_; clear hK K
      refine WS.step rfl (fun K hK => ?_); go_simp; refine hK _ ?_; clear hK K
      refine WS.step rfl (fun K hK => ?_); go_simp; refine hK _ ?_; clear hK K
      refine WS.step rfl (fun K hK => ?_); go_simp; refine hK _ ?_; clear hK K
      refine WS.step rfl (fun K hK => ?_); go_simp; refine hK _ ?_; clear hK K
      refine WS.step rfl (fun K hK => ?_); go_simp; refine hK _ ?_; clear hK K
      refine WS.step rfl (fun K hK => ?_); go_simp; refine hK _ ?_; clear hK K
      refine WS.step rfl (fun K hK => ?_); go_simp; refine hK _ ?_; clear hK K
      refine WS.step rfl (fun K hK => ?_); go_simp; refine hK _ ?_; clear hK K
      refine WS.nil ?_
      go_wp2
      rw [hm.out]
      clear g1 g2 f1 hm
      go_roundw
      case rel => exact ⟨p + 1, _, by omega, by go_num, hO2.out, hS2.out, hr2.out, hf2.out, hE2.out⟩
      case measure => simp [intOf]; omega
    · have d2 : ¬ (p : Int) < q := by omega
      obtain rfl : p = q := by omega
      have hR := hRis.out
      have hlow0 := Lib.hid (show ∀ j, 0 ≤ j → j < p → ((0 : Nat) : Int) ≤ S.getD j 0 from fun j _ hj => by have := Ch.at_ge hR j (by omega); omega)
      rw [hXl, ← hvl] at hR
      have hF : Ch.Fits vs S := fun j hj => hvf j (by omega)
      have hW := Lib.hid (hO.rw (L := 4294967296) hvr)
      have hSg := Lib.hid hS.rg
      have hB := Lib.hid (Bel.trans hB0.out hE)
      obtain ⟨e1, e2, e3⟩ := Ch.pE_yes hR hF
      obtain ⟨r1, r2, r3⟩ := Ch.u_back hR
      have hpr := Ch.pk_rng hvr hR hF S.length (Nat.le_refl _)
      have hpl := Ch.pk_len vs S S.length
      have hT := fun i hi s hs x hx => Ch.R_turned hR i hi s hs x hx
      have hP0 := fun s h => Ch.pk_stays (q := s) h hR
      have hMo := fun i j h1 h2 => Ch.mono hR i j h1 h2
      rw [hSl] at e2 e3 r1 r2 r3 hpr hpl hT hP0 hMo
      replace hT := Lib.hid hT
      replace hP0 := Lib.hid hP0
      replace hMo := Lib.hid hMo
      clear hO hS hE hvf d1 hF hRis hXl hR
      go_wp2_with (fail)
      refine (Ch.pack_any hW.out hSg.out (by omega)).mono ?_; rintro e wn ⟨A1, n1, c1, rfl, hP1, hE⟩
      rw [e1, e2]
      rw [e3] at hP1
      have hn1 : k = n1 := by have := hP1.len; omega
      subst hn1
      have hPW := Lib.hid (hP1.wo hpr)
      clear hP1 e1 e2 e3
      replace hpr := Lib.hid hpr
      replace hB := Lib.hid (Bel.trans hB.out hE)
      replace hW := Lib.hid (hW.out.below hE)
      replace hSg := Lib.hid (hSg.out.below hE)
      clear hE
      generalize Ch.pk vs S p = P at *
      generalize Ch.prev S p + 1 = H at *
      go_wp2_with (fail)
      refine (Ch.unpack_any hPW.out (by omega) _).mono ?_; rintro e wn ⟨A2, n2, c2, B2, m2, d2, rfl, hU2, hV2, hE⟩
      rw [r1] at hU2 hV2 ⊢
      rw [r2] at hU2
      rw [r3] at hV2
      rw [show Ch.uE (some (Ch.down S p)) = 0 from rfl]
      replace hU2 := Lib.hid hU2.rg
      replace hV2 := Lib.hid hV2.rg
      replace hB := Lib.hid (Bel.trans hB.out hE)
      replace hW := Lib.hid (hW.out.below hE)
      replace hSg := Lib.hid (hSg.out.below hE)
      replace hPW := Lib.hid (hPW.out.below hE)
      clear hE r1 r2 r3
      have hWg := Lib.hid hW.out.rg
      have kk : ((k : Int) != (k : Int)) = false := by simp
      go_wp2_with (fail)
      refine (Ch.same5_true hU2.out hWg.out).mono ?_; rintro e wn ⟨rfl, hE⟩
      replace hB := Lib.hid (Bel.trans hB.out hE)
      replace hW := Lib.hid (hW.out.below hE)
      replace hSg := Lib.hid (hSg.out.below hE)
      replace hPW := Lib.hid (hPW.out.below hE)
      replace hV2 := Lib.hid (hV2.out.below hE)
      clear hE
      go_wp2_with (fail)
      refine (Ch.same8_true hSg.out hV2.out).mono ?_; rintro e wn ⟨rfl, hE⟩
      replace hB := Lib.hid (Bel.trans hB.out hE)
      replace hW := Lib.hid (hW.out.below hE)
      replace hSg := Lib.hid (hSg.out.below hE)
      replace hPW := Lib.hid (hPW.out.below hE)
      clear hE
      clear hWg hU2 hV2
      go_wp2
      go_loopw [15, 16, 17, 18, 19, 20, 21] (fun a i _ _ _ _ _ wr => ∃ t r : Nat, r ≤ k ∧ t ≤ p ∧ a = .int .i64 (t : Int) ∧ i = .int .i64 (r : Int) ∧ (∀ j, j < t → S.getD j 0 < (r : Int)) ∧ (∀ j, t ≤ j → j < p → (r : Int) ≤ S.getD j 0) ∧ Below wn.heap.size wn wr) (fun _ i _ _ _ _ _ _ => k - (intOf i).toNat)
      case atStart => exact ⟨0, 0, Nat.zero_le _, Nat.zero_le _, rfl, rfl, fun j hj => by omega, hlow0.out, Below.refl _ _⟩
      case round =>
        obtain ⟨t, r, hr, ht, rfl, rfl, hlo, hhi, hE⟩ := hrel
        by_cases d1 : r < k
        · have d2 : (r : Int) < k := by omega
          obtain ⟨b, off, rfl⟩ := hPW.out.place (by omega)
          have gP := (hPW.out.below hE).at r d1
          have gV := (hW.out.below hE).at r d1
          rw [Nat.zero_add] at gV
          have x0 := (hPW.out.atR (by decide) r)
          by_cases d3 : t < p
          · have d4 : (t : Int) < p := by omega
            have gS1 := (hSg.out.below hE).at t d3
            rw [Nat.zero_add] at gS1
            by_cases c2 : S.getD t 0 = (r : Int)
            · rw [c2] at gS1
              have hlo2 := Lib.hid (show ∀ j, j < t + 1 → S.getD j 0 < ((r + 1 : Nat) : Int) from fun j hj => by
                rcases Nat.lt_or_ge j t with q | q
                · have := hlo j q; omega
                · rw [show j = t by omega, c2]; omega)
              have hhi2 := Lib.hid (show ∀ j, t + 1 ≤ j → j < p → ((r + 1 : Nat) : Int) ≤ S.getD j 0 from fun j h1 h2 => by
                have := hMo.out t j (by omega) h2
                rw [c2] at this
                omega)
              have R := Lib.hid (hT.out t d3 r c2 (P.getD r 0 / 65536 * 65536 + ((r : Int) + 1)) (by omega))
              have hx := Lib.hid (Ch.turn_word (P.getD r 0) r x0.1 x0.2 (by omega) (by omega))
              have c5 : ((r : Int) == (r : Int)) = true := by simp
              clear hlo hhi c2 gV
              have hO := Ow.new 37 .u32 wr wr.heap.size (Nat.le_refl _)
              have hEa := ((Kept.refl wr).alloc #[] 37).below
              have hs0 : wr.heap.size ≤ (wr.alloc (.cells #[] 37)).heap.size := hEa.size
              have hg := hO.has.1
              have hR1 := Lib.hid (((hPW.out.below hE).rg).below hEa)
              replace hO := Lib.hid hO
              replace hEa := Lib.hid hEa
              replace hE := Lib.hid hE
              go_upto_region 20 with (with_reducible refine append_rg (o := ⟨some 117, _, _, _, _, _⟩) Try.underlying22 Ch.info32 (by omega) rfl (.tmp 115) (.tmp 116) rfl wr.heap.size wr.heap.size 0 0 [] rfl hO.out _ k c1 P rfl hR1.out (by omega) hs0 ?_; intro g3 cap3 w6 hO3 hG3)
              rw [List.nil_append, Nat.zero_add] at hO3
              (try rw [Nat.zero_add])
              have hEb := hEa.out.grown hG3 hs0 (fun q e => by cases e; exact hg)
              have hg3 := hO3.has.1
              have g5 := hO3.at r d1
              have f5 := hO3.free r
              have hO5 := hO3.set r (P.getD r 0 / 65536 * 65536 + ((r : Int) + 1))
              have hY5 := Lib.hid (hO5.rw (L := 4294967296) (fun x hx => (mem_set hx).elim (hpr.out x) (fun e => by rw [e]; omega)))
              have hE5 := Lib.hid (Bel.trans hE.out (hEb.setCell (p := ⟨g3, r, none⟩) hg3 (.int .u32 (P.getD r 0 / 65536 * 65536 + ((r : Int) + 1)))))
              clear hO5 hO hO3 hEb hEa hE hg3 hG3 hR1 hs0 hg gP gS1
              generalize P.getD r 0 = x at *
              obtain ⟨x0, x1⟩ := x0
              go_wp2_with (fail)
              rw [hx.out]
              generalize w6.setCell ⟨g3, r, none⟩ (.int .u32 (x / 65536 * 65536 + ((r : Int) + 1))) = w10 at *
              clear hx f5 g5
              refine (Ch.unpack_any hY5.out (by omega) _).mono ?_; rintro e w11 ⟨A5, n5, c5, B5, m5, d5, rfl, _, _, hE6⟩
              rw [Ch.uE_10 R.out]
              replace hE5 := Lib.hid (Bel.trans hE5.out hE6)
              clear hE6 hY5 R
              go_wp2
              go_roundw
              case rel => exact ⟨t + 1, r + 1, by omega, by omega, by go_num, by go_num, hlo2.out, hhi2.out, hE5.out⟩
              case measure => simp [intOf]; omega
            · have c3 : (S.getD t 0 == (r : Int)) = false := by simpa using c2
              have R0 := Lib.hid (hP0.out r (fun j hj e => by
                rcases Nat.lt_or_ge j t with q | q
                · have := hlo j q; omega
                · have h1 := hhi t (Nat.le_refl _) d3
                  rcases Nat.lt_or_ge t j with q2 | q2
                  · have := hMo.out t j q2 hj; omega
                  · rw [show j = t by omega] at e; exact c2 e))
              rw [R0.out] at gP
              have hlo2 := Lib.hid (show ∀ j, j < t → S.getD j 0 < ((r + 1 : Nat) : Int) from fun j hj => by have := hlo j hj; omega)
              have hhi2 := Lib.hid (show ∀ j, t ≤ j → j < p → ((r + 1 : Nat) : Int) ≤ S.getD j 0 from fun j h1 h2 => by
                have h3 := hhi t (Nat.le_refl _) d3
                rcases Nat.lt_or_ge t j with q2 | q2
                · have := hMo.out t j q2 h2; omega
                · rw [show j = t by omega]; omega)
              clear hlo hhi R0 x0
              have c6 : (vs.getD r 0 != vs.getD r 0) = false := by simp
              generalize vs.getD r 0 = v at *
              clear c2
              generalize S.getD t 0 = u at gS1 c3
              replace hE := Lib.hid hE
              go_wp2
              go_quiet (fail)
              go_wp2
              go_roundw
              case rel => exact ⟨t, r + 1, by omega, by omega, rfl, by go_num, hlo2.out, hhi2.out, Bel.drewN hE.out nq⟩
              case measure => simp [intOf]; omega
          · have d4 : ¬ (t : Int) < p := by omega
            have R0 := Lib.hid (hP0.out r (fun j hj e => by
              have := hlo j (by omega); omega))
            rw [R0.out] at gP
            have hlo2 := Lib.hid (show ∀ j, j < t → S.getD j 0 < ((r + 1 : Nat) : Int) from fun j hj => by have := hlo j hj; omega)
            have hhi2 := Lib.hid (show ∀ j, t ≤ j → j < p → ((r + 1 : Nat) : Int) ≤ S.getD j 0 from fun j h1 h2 => by
              omega)
            clear hlo hhi R0 x0
            have c6 : (vs.getD r 0 != vs.getD r 0) = false := by simp
            generalize vs.getD r 0 = v at *
            replace hE := Lib.hid hE
            go_wp2
            go_quiet (fail)
            go_wp2
            go_roundw
            case rel => exact ⟨t, r + 1, by omega, by omega, rfl, by go_num, hlo2.out, hhi2.out, Bel.drewN hE.out nq⟩
            case measure => simp [intOf]; omega
        · have d2 : ¬ (r : Int) < k := by omega
          replace hB := Lib.hid (Bel.trans hB.out hE)
          clear d1
          go_wp2
          go_ret
          exact ⟨rfl, hB.out⟩
end Go.Proofs.Ytgmiicincdmjdaa
