/-
  The walk of LeBack.
-/
import Derived.Test.YtldehcpdeeilnaaLeQ
namespace Go.Proofs.Ytldehcpdeeilnaa
open Go.RowKit
set_option linter.unusedVariables false
set_option linter.unusedSimpArgs false
set_option maxRecDepth 100000
set_option maxHeartbeats 4000000 in
set_option maxRecDepth 100000 in
theorem walk_back (w : World) (A : Option Addr) (n c : Nat) (xs : List Int) (hx : Wo w A n c xs) (s : ByteArray) (hs : s.size ≤ maxLen) (B : Option Addr) (m d : Nat) (bs0 : List Int) (hb : By w B m d bs0) :
    Calls Try.prog 5 #[.slice A n c, .string s, .slice B m d] w fun e w' => e = .returned (.bool true) ∧ Below w.heap.size w w' := by
  have hX0 := Lib.hid hx
  have hX := hx.take (min n 40) (by omega)
  have hn40 : min n 40 ≤ 40 := by omega
  generalize hmn : min n 40 = k at *
  replace hmn := Lib.hid hmn
  generalize xs.take k = ys at *
  have hyl := hX.len
  have hyr := Lib.hid hX.rng
  replace hX := Lib.hid hX
  have hY0 := Lib.hid hb
  have hY := hb.take (min m 200) (by omega)
  have hm200 : min m 200 ≤ 200 := by omega
  generalize hmm : min m 200 = l at *
  replace hmm := Lib.hid hmm
  generalize bs0.take l = bs at *
  have hbr := Lib.hid hY.rng
  have hbl := hY.len
  replace hY := Lib.hid hY
  clear hx hb
  go_enter Try.func5, Try.ntmps5
  go_wp2_with (fail)
  refine (L.shown_any w).mono ?_; rintro e w1 ⟨rfl, hB⟩
  replace hB := Lib.hid hB
  go_wp2_with (fail)
  refine (L.few_any _ A n c xs (hX0.out.below hB.out)).mono ?_; rintro e wq ⟨rfl, rfl⟩
  rw [hmn.out]
  go_wp2_with (fail)
  refine (L.put_any (hX.out.below hB.out) (by omega)).mono ?_; rintro e w2 ⟨gp, cp, rfl, hP, hE⟩
  replace hB := Lib.hid (Bel.trans hB.out hE)
  replace hP := Lib.hid hP
  clear hE
  have hO := Ow.new 5 .u8 w2 w2.heap.size (Nat.le_refl _)
  have hE := ((Kept.refl w2).alloc #[] 5).below
  have hs0 : w2.heap.size ≤ (w2.alloc (.cells #[] 5)).heap.size := hE.size
  have hg := hO.has.1
  have hR1 := Lib.hid (hP.out.below hE)
  replace hO := Lib.hid hO
  replace hE := Lib.hid hE
  go_wp2_with (with_reducible refine append_row (o := ⟨some 31, _, _, _, _, _⟩) (L := 256) Try.underlying23 L.info8 (by omega) rfl (.tmp 29) (.tmp 30) rfl w2.heap.size _ _ _ _ rfl hO.out _ (4 * k) cp (L.put ys) rfl hR1.out (by omega) hs0 ?_; intro g3 cap3 w3 hO3 hG3)
  rw [List.nil_append, Nat.zero_add] at hO3
  replace hE := Lib.hid (hE.out.grown hG3 hs0 (fun q e => by cases e; exact hg))
  replace hO := Lib.hid hO3
  clear hO3 hG3 hR1 hs0 hg
  go_wp2_with (fail)
  refine (L.fewOf_any _ B m d bs0 (hY0.out.below (Bel.trans hB.out hE.out))).mono ?_; rintro e wq ⟨rfl, rfl⟩
  rw [hmm.out]
  have hs0 : w2.heap.size ≤ w3.heap.size := hE.out.size
  have hg := hO.out.has.1
  have hR1 := Lib.hid (hY.out.below (Bel.trans hB.out hE.out))
  go_wp2_with (with_reducible refine append_row (o := ⟨some 34, _, _, _, _, _⟩) (L := 256) Try.underlying23 L.info8 (by omega) rfl (.tmp 31) (.tmp 33) rfl w2.heap.size _ _ _ _ rfl hO.out _ l d bs rfl hR1.out (by omega) hs0 ?_; intro g4 cap4 w4 hO4 hG4)
  replace hE := Lib.hid (hE.out.grown hG4 hs0 (fun q e => by cases e; exact hg))
  replace hO := Lib.hid hO4
  clear hO4 hG4 hR1 hs0 hg
  have hT := Lib.hid (hO.out.rw (L := 256) (L.byt_append (L.put_byt ys) hbr.out))
  replace hP := Lib.hid (hP.out.below hE.out)
  replace hB := Lib.hid (Bel.trans hB.out hE.out)
  clear hO hE
  have hK := L.tk_put ys bs hyr.out
  rw [hyl] at hK
  refine (L.take_any hT.out (by omega) (k : Int)).mono ?_; rintro e w5 ⟨A5, n5, c5, rfl, hT5, hE⟩
  rw [hK.1]
  rw [hK.2] at hT5
  replace hT5 := Lib.hid hT5
  replace hP := Lib.hid (hP.out.below hE)
  replace hB := Lib.hid (Bel.trans hB.out hE)
  clear hE hT hK
  go_wp2_with (fail)
  refine (L.fit_any s hs w5).mono ?_; rintro e w6 ⟨t, rfl, hN, hE⟩
  replace hP := Lib.hid (hP.out.below hE)
  replace hB := Lib.hid (Bel.trans hB.out hE)
  replace hT5 := Lib.hid (hT5.out.below hE)
  clear hE
  have ht12 := L.name_size hN
  have htl := L.bs_len t
  replace hN := Lib.hid hN
  go_wp2_with (fail)
  refine (L.putName_yes t hN.out w6).mono ?_; rintro e w7 ⟨gn, cn, rfl, hQ, hE⟩
  replace hP := Lib.hid (hP.out.below hE)
  replace hB := Lib.hid (Bel.trans hB.out hE)
  replace hT5 := Lib.hid (hT5.out.below hE)
  clear hE
  have hw := L.whole_le t.size
  have hV := L.tn_put (L.bs t) bs hN.out
  have hC := fun i hi => L.tn_cut (L.bs t) i hi
  have hnb := L.nameB_byt (L.bs t) (L.bs_rng t) (by omega)
  rw [L.str_bs] at hV
  rw [htl] at hV hC
  replace hV := Lib.hid hV
  replace hC := Lib.hid hC
  replace hnb := Lib.hid hnb
  replace hQ := Lib.hid hQ
  have CN := Lib.hid (fun w => L.name_any t (by omega) w)
  rw [hN.out] at CN
  generalize L.nameB (L.bs t) = nb at *
  generalize L.whole t.size = M at *
  have hM1 : (M : Int) ≤ 17 := by omega
  clear htl hN
  have hO := Ow.new 5 .u8 w7 w7.heap.size (Nat.le_refl _)
  have hE := ((Kept.refl w7).alloc #[] 5).below
  have hs0 : w7.heap.size ≤ (w7.alloc (.cells #[] 5)).heap.size := hE.size
  have hg := hO.has.1
  have hR1 := Lib.hid (hQ.out.below hE)
  replace hO := Lib.hid hO
  replace hE := Lib.hid hE
  go_wp2_with (with_reducible refine append_row (o := ⟨some 50, _, _, _, _, _⟩) (L := 256) Try.underlying23 L.info8 (by omega) rfl (.tmp 48) (.tmp 49) rfl w7.heap.size _ _ _ _ rfl hO.out _ M cn nb rfl hR1.out (by omega) hs0 ?_; intro g3 cap3 w3 hO3 hG3)
  rw [List.nil_append, Nat.zero_add] at hO3
  replace hE := Lib.hid (hE.out.grown hG3 hs0 (fun q e => by cases e; exact hg))
  replace hO := Lib.hid hO3
  clear hO3 hG3 hR1 hs0 hg
  go_wp2_with (fail)
  refine (L.fewOf_any _ B m d bs0 (hY0.out.below (Bel.trans hB.out hE.out))).mono ?_; rintro e wq ⟨rfl, rfl⟩
  rw [hmm.out]
  have hs0 : w7.heap.size ≤ w3.heap.size := hE.out.size
  have hg := hO.out.has.1
  have hR1 := Lib.hid (hY.out.below (Bel.trans hB.out hE.out))
  go_wp2_with (with_reducible refine append_row (o := ⟨some 53, _, _, _, _, _⟩) (L := 256) Try.underlying23 L.info8 (by omega) rfl (.tmp 50) (.tmp 52) rfl w7.heap.size _ _ _ _ rfl hO.out _ l d bs rfl hR1.out (by omega) hs0 ?_; intro g4 cap4 w4 hO4 hG4)
  replace hE := Lib.hid (hE.out.grown hG4 hs0 (fun q e => by cases e; exact hg))
  replace hO := Lib.hid hO4
  clear hO4 hG4 hR1 hs0 hg
  have hT := Lib.hid (hO.out.rw (L := 256) (L.byt_append hnb.out hbr.out))
  replace hP := Lib.hid (hP.out.below hE.out)
  replace hB := Lib.hid (Bel.trans hB.out hE.out)
  replace hT5 := Lib.hid (hT5.out.below hE.out)
  replace hQ := Lib.hid (hQ.out.below hE.out)
  clear hO hE
  refine (L.takeName_any hT.out (by omega)).mono ?_; rintro e w8 ⟨rfl, hE⟩
  rw [hV.out]
  replace hP := Lib.hid (hP.out.below hE)
  replace hB := Lib.hid (Bel.trans hB.out hE)
  replace hT5 := Lib.hid (hT5.out.below hE)
  replace hQ := Lib.hid (hQ.out.below hE)
  clear hE hT hV hY hY0 hbr hmm hnb
  have hMc := hQ.out.le
  go_wp2
  go_loopw [18, 19, 20, 21] (fun i _ _ _ wr => ∃ q : Nat, q ≤ M ∧ i = .int .i64 q ∧ Below w8.heap.size w8 wr) (fun i _ _ _ _ => M - (intOf i).toNat)
  case atStart => exact ⟨0, Nat.zero_le _, rfl, Below.refl _ _⟩
  case round =>
    obtain ⟨q, hq, rfl, hE⟩ := hrel
    by_cases d1 : q < M
    · have d2 : (q : Int) < M := by omega
      have hq1 : (q : Int) ≤ (cn : Int) := by omega
      have R := Lib.hid (hC.out q d1)
      have hQ2 := Lib.hid ((hQ.out.below hE).take q (by omega))
      replace hE := Lib.hid hE
      go_wp2_with (fail)
      refine (L.takeName_any hQ2.out (by omega)).mono ?_; rintro e w9 ⟨rfl, hE9⟩
      rw [R.out]
      replace hE := Lib.hid (Bel.trans hE.out hE9)
      clear hE9 hQ2 R
      go_wp2
      go_roundw
      case rel => exact ⟨q + 1, by omega, by go_num, hE.out⟩
      case measure => simp [intOf]; omega
    · have d2 : ¬ (q : Int) < M := by omega
      replace hP := Lib.hid (hP.out.below hE)
      replace hB := Lib.hid (Bel.trans hB.out hE)
      replace hT5 := Lib.hid (hT5.out.below hE)
      replace hX := Lib.hid (hX.out.below hB.out)
      clear hE hC d1
      rename World => w9
      have hF1 : ((4 * k : Nat) : Int) = 4 * (k : Int) := by omega
      have hPc := hP.out.le
      have hM4 : (M : Int) % 4 = 0 := by omega
      generalize hF : 4 * k = F at *
      by_cases k0 : k = 0
      · subst k0
        have hF0 : F = 0 := by omega
        subst hF0
        clear hF1 hF hPc
        go_wp2_with (fail)
        refine (L.same_true hT5.out hX.out).mono ?_; rintro e w10 ⟨rfl, hE⟩
        replace hB := Lib.hid (Bel.trans hB.out hE)
        go_wp2_with (fail)
        refine (CN.out _).mono ?_; rintro e wq ⟨rfl, rfl⟩
        go_wp2
        go_ret
        exact ⟨rfl, hB.out⟩
      · have k1 : (k : Int) > 0 := by omega
        have k2 : (F : Int) > 0 := by omega
        have k3 : ((F : Int) - 1).toNat = F - 1 := by omega
        have k4 : 0 ≤ (F : Int) - 1 := by omega
        have k5 : (F : Int) - 1 ≤ (cp : Int) := by omega
        have R := L.tk_cut ys (by omega)
        rw [hyl, hF] at R
        replace R := Lib.hid R
        have hP2 := Lib.hid (hP.out.take (F - 1) (by omega))
        go_wp2_with (fail)
        refine (L.take_any hP2.out (by omega) (k : Int)).mono ?_; rintro e w10 ⟨A6, n6, c6, rfl, hT6, hE⟩
        rw [R.out]
        replace hB := Lib.hid (Bel.trans hB.out hE)
        replace hT5 := Lib.hid (hT5.out.below hE)
        replace hX := Lib.hid (hX.out.below hE)
        clear hE hT6 hP2 R
        have k6 : ((F : Int) == 4 * (k : Int)) = true := by simpa using hF1
        go_wp2_with (fail)
        refine (L.same_true hT5.out hX.out).mono ?_; rintro e w11 ⟨rfl, hE⟩
        replace hB := Lib.hid (Bel.trans hB.out hE)
        go_wp2_with (fail)
        refine (CN.out _).mono ?_; rintro e wq ⟨rfl, rfl⟩
        go_wp2
        go_ret
        exact ⟨rfl, hB.out⟩
end Go.Proofs.Ytldehcpdeeilnaa
