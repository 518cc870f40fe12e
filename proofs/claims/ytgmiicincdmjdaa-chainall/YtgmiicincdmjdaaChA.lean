/-
  The walk of ChainAll.
-/
import Derived.Test.YtgmiicincdmjdaaCh9
namespace Go.Proofs.Ytgmiicincdmjdaa
open Go.RowKit
set_option linter.unusedVariables false
set_option linter.unusedSimpArgs false
set_option maxRecDepth 100000
set_option maxHeartbeats 4000000 in
set_option maxRecDepth 100000 in
theorem walk_all (w : World) (A : Option Addr) (n c : Nat) (xs : List Int) (hx : Wo w A n c xs) (B : Option Addr) (m d : Nat) (ss0 : List Int) (hs : In w B m d ss0) (head : Int) :
    Calls Try.prog 3 #[.slice A n c, .slice B m d, .int .i64 head] w fun e w' => e = .returned (.bool true) ∧ Below w.heap.size w w' := by
  have hX0 := Lib.hid hx
  have hX := hx.take (min n 30) (by omega)
  have k30 : min n 30 ≤ 30 := by omega
  generalize hmn : min n 30 = k at *
  replace hmn := Lib.hid hmn
  generalize xs.take k = ys at *
  have hXl := hX.len
  replace hX := Lib.hid hX
  clear hx
  have hY0 := Lib.hid hs
  have hY := hs.take (min m 30) (by omega)
  have l30 : min m 30 ≤ 30 := by omega
  generalize hmm : min m 30 = l at *
  replace hmm := Lib.hid hmm
  generalize ss0.take l = ss at *
  have hYl := hY.len
  replace hY := Lib.hid hY
  clear hs
  go_enter Try.func3, Try.ntmps3
  go_wp2_with (fail)
  refine (Ch.shown_any w).mono ?_; rintro e w1 ⟨rfl, hB⟩
  replace hB := Lib.hid hB
  go_wp2_with (fail)
  refine (Ch.few_any _ A n c xs (hX0.out.below hB.out)).mono ?_; rintro e wq ⟨rfl, rfl⟩
  rw [hmn.out]
  go_wp2_with (fail)
  refine (Ch.short_any _ B m d ss0 (hY0.out.below hB.out)).mono ?_; rintro e wq ⟨rfl, rfl⟩
  rw [hmm.out]
  go_wp2_with (fail)
  refine (Ch.pack_any (hX.out.below hB.out) (hY.out.below hB.out) (by omega)).mono ?_; rintro e wn ⟨A1, n1, c1, rfl, hP1, hE⟩
  replace hP1 := Lib.hid hP1.rg
  replace hB := Lib.hid (Bel.trans hB.out hE)
  clear hE
  go_wp2_with (fail)
  refine (Ch.few_any _ A n c xs (hX0.out.below hB.out)).mono ?_; rintro e wq ⟨rfl, rfl⟩
  rw [hmn.out]
  go_wp2_with (fail)
  refine (Ch.short_any _ B m d ss0 (hY0.out.below hB.out)).mono ?_; rintro e wq ⟨rfl, rfl⟩
  rw [hmm.out]
  go_wp2_with (fail)
  refine (Ch.rpack_any (hX.out.below hB.out) (hY.out.below hB.out) (by omega)).mono ?_; rintro e wn ⟨A2, n2, c2, rfl, hP2, hE⟩
  replace hP2 := Lib.hid hP2.rg
  replace hB := Lib.hid (Bel.trans hB.out hE)
  replace hP1 := Lib.hid (hP1.out.below hE)
  clear hE
  go_wp2_with (fail)
  refine (Ch.few_any _ A n c xs (hX0.out.below hB.out)).mono ?_; rintro e wq ⟨rfl, rfl⟩
  rw [hmn.out]
  go_wp2_with (fail)
  refine (Ch.unpack_any (hX.out.below hB.out) (by omega) head).mono ?_; rintro e wn ⟨A3, n3, c3, B3, m3, d3, rfl, hU3, hV3, hE⟩
  replace hU3 := Lib.hid hU3.rg
  replace hV3 := Lib.hid hV3.rg
  replace hB := Lib.hid (Bel.trans hB.out hE)
  replace hP1 := Lib.hid (hP1.out.below hE)
  replace hP2 := Lib.hid (hP2.out.below hE)
  clear hE
  go_wp2_with (fail)
  refine (Ch.few_any _ A n c xs (hX0.out.below hB.out)).mono ?_; rintro e wq ⟨rfl, rfl⟩
  rw [hmn.out]
  go_wp2_with (fail)
  refine (Ch.runpack_any (hX.out.below hB.out) (by omega) head).mono ?_; rintro e wn ⟨A4, n4, c4, B4, m4, d4, rfl, hU4, hV4, hE⟩
  replace hU4 := Lib.hid hU4.rg
  replace hV4 := Lib.hid hV4.rg
  replace hB := Lib.hid (Bel.trans hB.out hE)
  replace hP1 := Lib.hid (hP1.out.below hE)
  replace hP2 := Lib.hid (hP2.out.below hE)
  replace hU3 := Lib.hid (hU3.out.below hE)
  replace hV3 := Lib.hid (hV3.out.below hE)
  clear hE
  clear hX hY hX0 hY0 hmn hmm
  generalize Ch.pE ys ss = e1 at *
  generalize Ch.pH ys ss = e2 at *
  generalize Ch.uE (Ch.R ys head) = e3 at *
  go_wp2_with (fail)
  refine (Ch.same5_true hP1.out hP2.out).mono ?_; rintro e wn ⟨rfl, hE⟩
  replace hB := Lib.hid (Bel.trans hB.out hE)
  replace hU3 := Lib.hid (hU3.out.below hE)
  replace hV3 := Lib.hid (hV3.out.below hE)
  replace hU4 := Lib.hid (hU4.out.below hE)
  replace hV4 := Lib.hid (hV4.out.below hE)
  clear hE
  go_wp2_with (fail)
  refine (Ch.same5_true hU3.out hU4.out).mono ?_; rintro e wn ⟨rfl, hE⟩
  replace hB := Lib.hid (Bel.trans hB.out hE)
  replace hV3 := Lib.hid (hV3.out.below hE)
  replace hV4 := Lib.hid (hV4.out.below hE)
  clear hE
  go_wp2_with (fail)
  refine (Ch.same8_true hV3.out hV4.out).mono ?_; rintro e wn ⟨rfl, hE⟩
  replace hB := Lib.hid (Bel.trans hB.out hE)
  clear hE
  go_wp2
  go_ret
  exact ⟨rfl, hB.out⟩
end Go.Proofs.Ytgmiicincdmjdaa
