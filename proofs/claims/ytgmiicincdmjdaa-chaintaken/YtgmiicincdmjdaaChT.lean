/-
  The walk of ChainTaken.
-/
import Derived.Test.YtgmiicincdmjdaaChQ
namespace Go.Proofs.Ytgmiicincdmjdaa
open Go.RowKit
set_option linter.unusedVariables false
set_option linter.unusedSimpArgs false
set_option maxRecDepth 100000
set_option maxHeartbeats 4000000 in
set_option maxRecDepth 100000 in
theorem walk_taken (w : World) (A : Option Addr) (n c : Nat) (xs : List Int) (hx : Wo w A n c xs) (hd : Int) (hd0 : 0 ≤ hd) (hd1 : hd ≤ 255) (od : Int) :
    Calls Try.prog 5 #[.slice A n c, .int .u8 hd, .int .i64 od] w fun e w' => e = .returned (.bool true) ∧ Below w.heap.size w w' := by
  have hX0 := Lib.hid hx
  have hX := hx.take (min n 30) (by omega)
  have k30 : min n 30 ≤ 30 := by omega
  generalize hmn : min n 30 = k at *
  replace hmn := Lib.hid hmn
  generalize xs.take k = ys at *
  have hXl := hX.len
  replace hX := Lib.hid hX
  clear hx
  go_enter Try.func5, Try.ntmps5
  go_wp2_with (fail)
  refine (Ch.shown_any w).mono ?_; rintro e w1 ⟨rfl, hB⟩
  replace hB := Lib.hid hB
  have hO := Ow.new 37 .u32 w1 w1.heap.size (Nat.le_refl _)
  have hE := ((Kept.refl w1).alloc #[] 37).below
  have hs0 : w1.heap.size ≤ (w1.alloc (.cells #[] 37)).heap.size := hE.size
  have hg := hO.has.1
  replace hO := Lib.hid hO
  replace hE := Lib.hid hE
  go_wp2_with (fail)
  refine (Ch.few_any _ A n c xs (hX0.out.below (Bel.trans hB.out hE.out))).mono ?_; rintro e wq ⟨rfl, rfl⟩
  rw [hmn.out]
  have hyr := Lib.hid hX.out.rng
  have hR1 := Lib.hid ((hX.out.below (Bel.trans hB.out hE.out)).rg)
  clear hX0 hmn
  go_wp2_with (with_reducible refine append_rg (o := ⟨some 23, _, _, _, _, _⟩) Try.underlying22 Ch.info32 (by omega) rfl (.tmp 20) (.tmp 22) rfl w1.heap.size w1.heap.size 0 0 [] rfl hO.out _ k c ys rfl hR1.out (by omega) hs0 ?_; intro g cap w3 hO3 hG3)
  rw [List.nil_append, Nat.zero_add] at hO3
  (try rw [Nat.zero_add])
  replace hE := Lib.hid (hE.out.grown hG3 hs0 (fun q e => by cases e; exact hg))
  replace hO := Lib.hid hO3
  clear hO3 hG3 hR1 hs0 hg hX
  have hb0 : w1.heap.size ≤ g := hO.out.has.1
  obtain ⟨z, hz⟩ := Int.eq_ofNat_of_zero_le (show 0 ≤ hd % 32 by omega)
  have hz32 : (z : Int) < 32 := by omega
  go_loopw [9] (fun i wr => ∃ (p : Nat) (vs : List Int), p ≤ k ∧ i = .int .i64 (p : Int) ∧ Ow 37 .u32 w1.heap.size g k cap vs wr ∧ (∀ x ∈ vs, 0 ≤ x ∧ x < 4294967296) ∧ Below w1.heap.size w1 wr) (fun i _ => k - (intOf i).toNat)
  case atStart => exact ⟨0, ys, Nat.zero_le _, rfl, hO.out, hyr.out, hE.out⟩
  case round =>
    clear hO hE hyr hXl
    obtain ⟨p, zs, hp, rfl, hO, hvr, hE⟩ := hrel
    by_cases d1 : p < k
    · have d2 : (p : Int) < k := by omega
      have g1 := hO.at p d1
      have f1 := hO.free p
      have hvl := hO.rg.len
      have hx : 0 ≤ zs.getD p 0 ∧ zs.getD p 0 < 4294967296 := (hO.rw hvr).atR (by decide) p
      have hn := Ch.not_rng (zs.getD p 0) 65504 hx.1 hx.2 (by decide) (by decide)
      have hO2 := Lib.hid (hO.set p (bits .andNot .u32 (zs.getD p 0) 65504))
      have hE2 := Lib.hid (hE.setCell (p := ⟨g, p, none⟩) hb0 (.int .u32 (bits .andNot .u32 (zs.getD p 0) 65504)))
      have hr2 := Lib.hid (show ∀ x ∈ zs.set p (bits .andNot .u32 (zs.getD p 0) 65504), 0 ≤ x ∧ x < 4294967296 from fun x hx => (mem_set hx).elim (hvr x) (fun e => by rw [e]; exact hn))
      clear hO hE hvr hx hn
      generalize zs.getD p 0 = x at *
      go_wp2
      go_roundw
      case rel => exact ⟨p + 1, _, by omega, by go_num, hO2.out, hr2.out, hE2.out⟩
      case measure => simp [intOf]; omega
    · have d2 : ¬ (p : Int) < k := by omega
      have hzl := hO.rg.len
      have hX := Lib.hid (hO.rw (L := 4294967296) hvr)
      replace hB := Lib.hid (Bel.trans hB.out hE)
      have hr := Lib.hid hvr
      clear hO hE hvr d1
      go_wp2_with (fail)
      refine (Ch.unpack_any hX.out (by omega) _).mono ?_; rintro e wn ⟨A1, n1, c1, B1, m1, d1, rfl, hU1, hV1, hE⟩
      replace hU1 := Lib.hid hU1.rg
      replace hV1 := Lib.hid hV1.rg
      replace hB := Lib.hid (Bel.trans hB.out hE)
      replace hX := Lib.hid (hX.out.below hE)
      clear hE
      go_wp2_with (fail)
      refine (Ch.unpack_any hX.out (by omega) od).mono ?_; rintro e wn ⟨A2, n2, c2, B2, m2, d2, rfl, hU2, hV2, hE⟩
      replace hU2 := Lib.hid hU2.rg
      replace hV2 := Lib.hid hV2.rg
      replace hB := Lib.hid (Bel.trans hB.out hE)
      replace hX := Lib.hid (hX.out.below hE)
      replace hU1 := Lib.hid (hU1.out.below hE)
      replace hV1 := Lib.hid (hV1.out.below hE)
      clear hE
      generalize Ch.R zs od = r2 at *
      rcases Ch.u_cases hU2.out hV2.out with ⟨q2, rfl, rfl⟩ | ⟨q2, _, _⟩
      · rw [q2]
        clear hU2 hV2 q2
        generalize hr1 : Ch.R zs (z : Int) = r1 at *
        rcases Ch.u_cases hU1.out hV1.out with ⟨q1, rfl, rfl⟩ | ⟨q1, t1, rfl⟩
        · rw [q1]
          clear hU1 hV1 q1
          go_wp2
          go_ret
          exact ⟨rfl, hB.out⟩
        · rw [q1]
          obtain ⟨p1, p2, p3⟩ := Ch.packs_again (by omega) hr.out hr1
          have hU := Lib.hid (hU1.out.rw (Ch.uW_rng hr.out _))
          have hn1 := hU1.out.len
          rw [show (Ch.uW zs (some t1)).length = k by rw [show Ch.uW zs (some t1) = Ch.un zs t1 from rfl, Ch.un_length]; exact hzl] at hn1
          subst hn1
          clear hU1 q1 hr1
          go_wp2_with (fail)
          refine (Ch.pack_any hU.out hV1.out (by omega)).mono ?_; rintro e wn ⟨A3, n3, c3, rfl, hP3, hE⟩
          rw [p1, p2]
          rw [p3] at hP3
          replace hP3 := Lib.hid hP3.rg
          replace hB := Lib.hid (Bel.trans hB.out hE)
          replace hX := Lib.hid (hX.out.below hE)
          replace hX := Lib.hid hX.out.rg
          clear hU hV1 hE p1 p2 p3
          go_wp2_with (fail)
          refine (Ch.same5_true hP3.out hX.out).mono ?_; rintro e wn ⟨rfl, hE⟩
          replace hB := Lib.hid (Bel.trans hB.out hE)
          clear hE
          have z1 : ((z : Int) == (z : Int)) = true := by simp
          go_wp2
          go_ret
          exact ⟨rfl, hB.out⟩
      · rw [q2]
        clear hU2 hV2 q2
        generalize hr1 : Ch.R zs (z : Int) = r1 at *
        rcases Ch.u_cases hU1.out hV1.out with ⟨q1, rfl, rfl⟩ | ⟨q1, t1, rfl⟩
        · rw [q1]
          clear hU1 hV1 q1
          go_wp2
          go_ret
          exact ⟨rfl, hB.out⟩
        · rw [q1]
          obtain ⟨p1, p2, p3⟩ := Ch.packs_again (by omega) hr.out hr1
          have hU := Lib.hid (hU1.out.rw (Ch.uW_rng hr.out _))
          have hn1 := hU1.out.len
          rw [show (Ch.uW zs (some t1)).length = k by rw [show Ch.uW zs (some t1) = Ch.un zs t1 from rfl, Ch.un_length]; exact hzl] at hn1
          subst hn1
          clear hU1 q1 hr1
          go_wp2_with (fail)
          refine (Ch.pack_any hU.out hV1.out (by omega)).mono ?_; rintro e wn ⟨A3, n3, c3, rfl, hP3, hE⟩
          rw [p1, p2]
          rw [p3] at hP3
          replace hP3 := Lib.hid hP3.rg
          replace hB := Lib.hid (Bel.trans hB.out hE)
          replace hX := Lib.hid (hX.out.below hE)
          replace hX := Lib.hid hX.out.rg
          clear hU hV1 hE p1 p2 p3
          go_wp2_with (fail)
          refine (Ch.same5_true hP3.out hX.out).mono ?_; rintro e wn ⟨rfl, hE⟩
          replace hB := Lib.hid (Bel.trans hB.out hE)
          clear hE
          have z1 : ((z : Int) == (z : Int)) = true := by simp
          go_wp2
          go_ret
          exact ⟨rfl, hB.out⟩
end Go.Proofs.Ytgmiicincdmjdaa
