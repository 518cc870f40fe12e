/-
  The walk of ChainEmpty.
-/
import Derived.Test.YtgmiicincdmjdaaChQ
namespace Go.Proofs.Ytgmiicincdmjdaa
open Go.RowKit
set_option linter.unusedVariables false
set_option linter.unusedSimpArgs false
set_option maxRecDepth 100000
set_option maxHeartbeats 4000000 in
set_option maxRecDepth 100000 in
theorem walk_empty (w : World) (A : Option Addr) (n c : Nat) (xs : List Int) (hx : Wo w A n c xs) (B : Option Addr) (m d : Nat) (bs0 : List Int) (hb : By w B m d bs0) :
    Calls Try.prog 6 #[.slice A n c, .slice B m d] w fun e w' => e = .returned (.bool true) ∧ Below w.heap.size w w' := by
  have hX0 := Lib.hid hx
  have hX := hx.take (min n 30) (by omega)
  have k30 : min n 30 ≤ 30 := by omega
  generalize hmn : min n 30 = k at *
  replace hmn := Lib.hid hmn
  generalize xs.take k = ys at *
  have hXl := hX.len
  replace hX := Lib.hid hX
  clear hx
  replace hb := Lib.hid hb
  go_enter Try.func6, Try.ntmps6
  go_wp2_with (fail)
  refine (Ch.shown_any w).mono ?_; rintro e w1 ⟨rfl, hB⟩
  replace hB := Lib.hid hB
  go_wp2_with (fail)
  refine (Ch.few_any _ A n c xs (hX0.out.below hB.out)).mono ?_; rintro e wq ⟨rfl, rfl⟩
  rw [hmn.out]
  go_wp2_with (fail)
  refine (Ch.pack_any (hX.out.below hB.out) (Rg.empty .i64 _) (by omega)).mono ?_; rintro e wn ⟨A1, n1, c1, rfl, hP1, hE⟩
  rw [(Ch.p_nil ys).1, (Ch.p_nil ys).2.1]
  rw [(Ch.p_nil ys).2.2] at hP1
  replace hP1 := Lib.hid hP1.rg
  replace hB := Lib.hid (Bel.trans hB.out hE)
  clear hE
  go_wp2_with (fail)
  refine (Ch.unpack_any (hX.out.below hB.out) (by omega) _).mono ?_; rintro e wn ⟨A2, n2, c2, B2, m2, d2, rfl, hU2, hV2, hE⟩
  rw [Ch.R_zero] at hU2 hV2
  rw [Ch.R_zero, show Ch.uE (some []) = 0 from rfl]
  rw [show Ch.uW ys (some []) = ys from rfl] at hU2
  rw [show Ch.uS (some []) = [] from rfl] at hV2
  replace hU2 := Lib.hid hU2.rg
  replace hV2 := Lib.hid hV2.rg
  replace hB := Lib.hid (Bel.trans hB.out hE)
  replace hP1 := Lib.hid (hP1.out.below hE)
  clear hE
  go_wp2_with (fail)
  refine (Ch.fit_any (hb.out.below hB.out) k (by omega)).mono ?_; rintro e wn ⟨gS, cS, rfl, hS, hE⟩
  replace hB := Lib.hid (Bel.trans hB.out hE)
  replace hP1 := Lib.hid (hP1.out.below hE)
  replace hU2 := Lib.hid (hU2.out.below hE)
  replace hV2 := Lib.hid (hV2.out.below hE)
  clear hE
  have hRis := (Ch.fit_rises bs0 ys.length (by omega) (min k m) (by omega)).1
  have hSm := Ch.fit_len bs0 (min k m)
  generalize Ch.fit bs0 (min k m) = S at *
  generalize hSl : S.length = q at *
  replace hRis := Lib.hid hRis
  replace hS := Lib.hid hS.rg
  obtain rfl : m2 = 0 := hV2.out.len.symm
  clear hV2
  have hXx : k = 0 ∨ ∃ b off, A = some ⟨b, off, none⟩ := (Nat.eq_zero_or_pos k).imp_right hX.out.place
  go_wp2
  go_loopw [14, 15] (fun b i wr => ∃ p : Nat, p ≤ q ∧ i = .int .i64 (p : Int) ∧ b = .bool (!decide (Ch.FitsTo ys S p)) ∧ wn = wr) (fun _ i _ => q - (intOf i).toNat)
  case atStart => exact ⟨0, Nat.zero_le _, rfl, by rw [decide_eq_true (show Ch.FitsTo ys S 0 from fun j hj => by omega)]; rfl, rfl⟩
  case round =>
    obtain ⟨p, hp, rfl, rfl, rfl⟩ := hrel
    by_cases d1 : p < q
    · have d2 : (p : Int) < q := by omega
      obtain ⟨s, hs1, hs2, hs3⟩ := Ch.rsite_nat hRis.out p (by omega)
      rw [hXl] at hs2
      rcases hXx with h0 | ⟨b, off, rfl⟩
      · omega
      have g1 := hS.out.at p d1
      rw [hs1, Nat.zero_add] at g1
      have g2 := (hX.out.below hB.out).at s hs2
      have hsn : (s : Int) < k := by omega
      have hv : Ch.val ys S p = ys.getD s 0 := by unfold Ch.val; rw [hs1, Int.toNat_natCast]
      generalize ys.getD s 0 = x at *
      by_cases c1 : Ch.FitsTo ys S p
      · rw [decide_eq_true c1]
        by_cases c2 : x ≤ 65535
        · have R := Lib.hid (show (!decide (Ch.FitsTo ys S (p + 1))) = false by rw [decide_eq_true (Ch.fitsTo_succ c1 (by omega))]; rfl)
          have c3 : ¬ 65535 < x := by omega
          have c4 : decide (65535 < x) = false := decide_eq_false c3
          clear hv hs1 c1 c2
          go_wp2
          go_roundw
          case rel => exact ⟨p + 1, by omega, by go_num, by rw [R.out], by trivial⟩
          case measure => simp [intOf]; omega
        · have R := Lib.hid (show (!decide (Ch.FitsTo ys S (p + 1))) = true by rw [decide_eq_false (fun e => c2 (by have := e p (by omega); omega))]; rfl)
          have c3 : 65535 < x := by omega
          have c4 : decide (65535 < x) = true := decide_eq_true c3
          clear hv hs1 c1 c2
          go_wp2
          go_roundw
          case rel => exact ⟨p + 1, by omega, by go_num, by rw [R.out], by trivial⟩
          case measure => simp [intOf]; omega
      · rw [decide_eq_false c1]
        have R := Lib.hid (show (!decide (Ch.FitsTo ys S (p + 1))) = true by rw [decide_eq_false (fun e => c1 (fun j hj => e j (by omega)))]; rfl)
        clear hv hs1 c1 g1 g2
        go_wp2
        go_roundw
        case rel => exact ⟨p + 1, by omega, by go_num, by rw [R.out], by trivial⟩
        case measure => simp [intOf]; omega
    · have d2 : ¬ (p : Int) < q := by omega
      obtain rfl : p = q := by omega
      have hQ : (Ch.pE ys S = 0 ∧ (!decide (Ch.FitsTo ys S p)) = false) ∨ (Ch.pE ys S = 8 ∧ (!decide (Ch.FitsTo ys S p)) = true) := by
        rw [← hSl]
        by_cases f : Ch.Fits ys S
        · exact Or.inl ⟨(Ch.pE_yes hRis.out f).1, by rw [decide_eq_true (show Ch.FitsTo ys S S.length from f)]; rfl⟩
        · exact Or.inr ⟨(Ch.pE_big hRis.out f).1, by rw [decide_eq_false (show ¬ Ch.FitsTo ys S S.length from f)]; rfl⟩
      generalize (!decide (Ch.FitsTo ys S p)) = big at *
      replace hQ := Lib.hid hQ
      clear hXx d1 hp
      go_wp2_with (fail)
      refine (Ch.pack_any (hX.out.below hB.out) hS.out (by omega)).mono ?_; rintro e wn ⟨A3, n3, c3, rfl, hP3, hE⟩
      replace hP3 := Lib.hid hP3.rg
      replace hB := Lib.hid (Bel.trans hB.out hE)
      replace hP1 := Lib.hid (hP1.out.below hE)
      replace hU2 := Lib.hid (hU2.out.below hE)
      replace hS := Lib.hid (hS.out.below hE)
      clear hE
      clear hP3
      have hO := Ow.new 3 .i64 wn wn.heap.size (Nat.le_refl _)
      have hE := ((Kept.refl wn).alloc #[] 3).below
      have hs0 : wn.heap.size ≤ (wn.alloc (.cells #[] 3)).heap.size := hE.size
      have hg := hO.has.1
      have hR1 := Lib.hid (hS.out.below hE)
      replace hO := Lib.hid hO
      replace hE := Lib.hid hE
      go_wp2_with (first
        | (with_reducible refine append_rg (o := ⟨some 78, _, _, _, _, _⟩) Try.underlying23 Ch.info64 (by omega) rfl (.tmp 76) (.tmp 77) rfl wn.heap.size wn.heap.size 0 0 [] rfl hO.out _ p cS S rfl hR1.out (by omega) hs0 ?_
           intro g3 cap3 w3 hO3 hG3
           rw [List.nil_append, Nat.zero_add] at hO3
           rw [Nat.zero_add]
           replace hE := hE.out.grown hG3 hs0 (fun q e => by cases e; exact hg)
           have hA3 := ((Kept.refl w3).alloc #[.int .i64 (k : Int)] 3).below
           have hg3 := hO3.has.1
           replace hO := Lib.hid (hO3.below hA3)
           replace hE := Lib.hid (hE.trans (hA3.mono hE.size))
           have hY4 := Lib.hid (Rg.one (Has.new #[.int .i64 (k : Int)] 3 w3))
           clear hO3 hG3 hR1 hs0 hg hA3
           have hs0 : wn.heap.size ≤ (w3.alloc (.cells #[.int .i64 (k : Int)] 3)).heap.size := hE.out.size)
        | (with_reducible refine append_rg (o := ⟨some 82, _, _, _, _, _⟩) Try.underlying23 Ch.info64 (by omega) rfl (.tmp 78) (.tmp 81) rfl wn.heap.size g3 p cap3 S rfl hO.out _ 1 1 [(k : Int)] rfl hY4.out (by omega) hs0 ?_
           intro g4 cap4 w4 hO4 hG4
           replace hE := Lib.hid (hE.out.grown hG4 hs0 (fun q e => by cases e; exact hg3))
           replace hO := Lib.hid hO4.rg
           clear hO4 hG4 hY4 hs0 hg3))
      replace hB := Lib.hid (Bel.trans hB.out hE.out)
      replace hP1 := Lib.hid (hP1.out.below hE.out)
      replace hU2 := Lib.hid (hU2.out.below hE.out)
      clear hE hS
      refine (Ch.pack_any (hX.out.below hB.out) hO.out (by omega)).mono ?_; rintro e wn ⟨A4, n4, c4, rfl, hP4, hE⟩
      rw [Ch.pE_7 (Ch.not_end S (show ((ys.length : Nat) : Int) ≤ (k : Int) by omega))]
      replace hP4 := Lib.hid hP4.rg
      replace hB := Lib.hid (Bel.trans hB.out hE)
      replace hP1 := Lib.hid (hP1.out.below hE)
      replace hU2 := Lib.hid (hU2.out.below hE)
      clear hE
      clear hP4 hO
      have hA5 := ((Kept.refl wn).alloc #[.int .i64 (-1)] 3).below
      have hY5 := Lib.hid (Rg.one (Has.new #[.int .i64 (-1)] 3 wn))
      replace hB := Lib.hid (Bel.trans hB.out hA5)
      replace hP1 := Lib.hid (hP1.out.below hA5)
      replace hU2 := Lib.hid (hU2.out.below hA5)
      clear hA5
      go_wp2_with (fail)
      refine (Ch.pack_any (hX.out.below hB.out) hY5.out (by omega)).mono ?_; rintro e wn ⟨A5, n5, c5, rfl, hP5, hE⟩
      rw [Ch.pE_7 (Ch.not_neg ys.length)]
      replace hP5 := Lib.hid hP5.rg
      replace hB := Lib.hid (Bel.trans hB.out hE)
      replace hP1 := Lib.hid (hP1.out.below hE)
      replace hU2 := Lib.hid (hU2.out.below hE)
      clear hE
      clear hP5 hY5
      go_wp2_with (fail)
      refine (Ch.unpack_any (hX.out.below hB.out) (by omega) _).mono ?_; rintro e wn ⟨A6, n6, c6, B6, m6, d6, rfl, hU6, hV6, hE⟩
      rw [Ch.uE_10 (Ch.R_out (ws := ys) (Or.inr (show ((ys.length : Nat) : Int) < (k : Int) + 1 by omega)))]
      replace hU6 := Lib.hid hU6.rg
      replace hV6 := Lib.hid hV6.rg
      replace hB := Lib.hid (Bel.trans hB.out hE)
      replace hP1 := Lib.hid (hP1.out.below hE)
      replace hU2 := Lib.hid (hU2.out.below hE)
      clear hE
      clear hU6 hV6
      go_wp2_with (fail)
      refine (Ch.unpack_any (hX.out.below hB.out) (by omega) _).mono ?_; rintro e wn ⟨A7, n7, c7, B7, m7, d7, rfl, hU7, hV7, hE⟩
      rw [Ch.uE_10 (Ch.R_out (ws := ys) (Or.inl (by decide)))]
      replace hU7 := Lib.hid hU7.rg
      replace hV7 := Lib.hid hV7.rg
      replace hB := Lib.hid (Bel.trans hB.out hE)
      replace hP1 := Lib.hid (hP1.out.below hE)
      replace hU2 := Lib.hid (hU2.out.below hE)
      clear hE
      clear hU7 hV7
      replace hX := Lib.hid (hX.out.below hB.out)
      have hXg := Lib.hid hX.out.rg
      clear hX
      rcases hQ.out with ⟨q1, q2⟩ | ⟨q1, q2⟩
      · rw [q1]
        subst q2
        clear q1 hQ
        go_wp2_with (fail)
        refine (Ch.same5_true hP1.out hXg.out).mono ?_; rintro e wn ⟨rfl, hE⟩
        replace hB := Lib.hid (Bel.trans hB.out hE)
        replace hU2 := Lib.hid (hU2.out.below hE)
        replace hXg := Lib.hid (hXg.out.below hE)
        clear hE
        go_wp2_with (fail)
        refine (Ch.same5_true hU2.out hXg.out).mono ?_; rintro e wn ⟨rfl, hE⟩
        replace hB := Lib.hid (Bel.trans hB.out hE)
        clear hE
        go_wp2
        go_ret
        exact ⟨rfl, hB.out⟩
      · rw [q1]
        subst q2
        clear q1 hQ
        go_wp2_with (fail)
        refine (Ch.same5_true hP1.out hXg.out).mono ?_; rintro e wn ⟨rfl, hE⟩
        replace hB := Lib.hid (Bel.trans hB.out hE)
        replace hU2 := Lib.hid (hU2.out.below hE)
        replace hXg := Lib.hid (hXg.out.below hE)
        clear hE
        go_wp2_with (fail)
        refine (Ch.same5_true hU2.out hXg.out).mono ?_; rintro e wn ⟨rfl, hE⟩
        replace hB := Lib.hid (Bel.trans hB.out hE)
        clear hE
        go_wp2
        go_ret
        exact ⟨rfl, hB.out⟩
end Go.Proofs.Ytgmiicincdmjdaa
