/-
  The walk of LeNames.
-/
import Derived.Test.YtldehcpdeeilnaaLe6
namespace Go.Proofs.Ytldehcpdeeilnaa
open Go.RowKit
set_option linter.unusedVariables false
set_option linter.unusedSimpArgs false
set_option maxRecDepth 100000
set_option maxHeartbeats 2000000 in
set_option maxRecDepth 100000 in
theorem walk_names (w : World) (s : ByteArray) (hs : s.size ≤ maxLen) (A : Option Addr) (n c : Nat) (xs : List Int) (hx : By w A n c xs) :
    Calls Try.prog 4 #[.string s, .slice A n c] w fun e w' => e = .returned (.bool true) ∧ Below w.heap.size w w' := by
  unfold maxLen at hs
  have hs1 : (s.size : Int) ≤ 9223372036854775807 := by omega
  have hX0 := Lib.hid hx
  have hX := hx.take (min n 200) (by omega)
  have hm : min n 200 ≤ 200 := by omega
  generalize hmm : min n 200 = m at *
  replace hmm := Lib.hid hmm
  generalize xs.take m = bs at *
  replace hX := Lib.hid hX
  clear hx
  by_cases c1 : (s.size : Int) ≤ 30
  · have ht0 : True := trivial
    go_enter Try.func4, Try.ntmps4
    go_wp2_with (fail)
    refine (L.shown_any w).mono ?_; rintro e w1 ⟨rfl, hB⟩
    replace hB := Lib.hid hB
    go_wp2_with (fail)
    have hs2 : s.size ≤ 1000000 := by omega
    generalize s = t at *
    clear ht0
    replace hs2 := Lib.hid hs2
    refine (L.putName_any t hs2.out w1).mono ?_; rintro e w2 ⟨A1, n1, c1', rfl, hP, hB2⟩
    replace hB := Lib.hid (Bel.trans hB.out hB2)
    replace hP := Lib.hid hP
    clear hB2
    go_wp2_with (fail)
    refine (L.rputName_any t hs2.out w2).mono ?_; rintro e w3 ⟨A2, n2, c2', rfl, hR, hB3⟩
    replace hB := Lib.hid (Bel.trans hB.out hB3)
    replace hP := Lib.hid (hP.out.below hB3)
    replace hR := Lib.hid hR
    clear hB3
    go_wp2_with (fail)
    refine (L.fewOf_any w3 A n c xs (hX0.out.below hB.out)).mono ?_; rintro e w' ⟨rfl, rfl⟩
    rw [hmm.out]
    go_wp2_with (fail)
    refine (L.takeName_any (hX.out.below hB.out) (by omega)).mono ?_; rintro e w4 ⟨rfl, hB4⟩
    unfold L.tnV
    replace hB := Lib.hid (Bel.trans hB.out hB4)
    replace hP := Lib.hid (hP.out.below hB4)
    replace hR := Lib.hid (hR.out.below hB4)
    clear hB4
    go_wp2_with (fail)
    refine (L.fewOf_any w4 A n c xs (hX0.out.below hB.out)).mono ?_; rintro e w' ⟨rfl, rfl⟩
    rw [hmm.out]
    go_wp2_with (fail)
    refine (L.rtakeName_any (hX.out.below hB.out) (by omega)).mono ?_; rintro e w5 ⟨rfl, hB5⟩
    unfold L.tnV
    replace hB := Lib.hid (Bel.trans hB.out hB5)
    replace hP := Lib.hid (hP.out.below hB5)
    replace hR := Lib.hid (hR.out.below hB5)
    clear hB5
    generalize L.tnE bs = E at *
    generalize L.tnN bs = M at *
    generalize strOfNums (L.tnS bs) = X at *
    have CN := Lib.hid (fun w => L.name_any t hs2.out w)
    have CR := Lib.hid (fun w => L.rname_any t hs2.out w)
    generalize L.name (L.bs t) = q at *
    generalize L.pnB (L.bs t) = pb at *
    generalize L.pnE (L.bs t) = pe at *
    go_wp2_with (fail)
    refine (CN.out _).mono ?_; rintro e w' ⟨rfl, rfl⟩
    go_wp2_with (fail)
    refine (CR.out _).mono ?_; rintro e w' ⟨rfl, rfl⟩
    clear CN CR hX hX0
    go_wp2_with (first
      | (with_reducible refine want_do (o := ⟨some 57, _, _, _, _, _⟩) rfl (exec_text Try.underlying23 Try.underlying5 Try.underlying9 (.tmp 56) rfl rfl hP.out) ?_)
      | (with_reducible refine want_do (o := ⟨some 59, _, _, _, _, _⟩) rfl (exec_text Try.underlying23 Try.underlying5 Try.underlying9 (.tmp 58) rfl rfl hR.out) ?_))
    go_ret
    exact ⟨rfl, hB.out⟩
  · have ht0 : (s.extract 0 30).size ≤ 30 := by rw [ByteArray.size_extract]; omega
    go_enter Try.func4, Try.ntmps4
    go_wp2_with (fail)
    refine (L.shown_any w).mono ?_; rintro e w1 ⟨rfl, hB⟩
    replace hB := Lib.hid hB
    go_wp2_with (fail)
    have hs2 : (s.extract 0 30).size ≤ 1000000 := by omega
    generalize s.extract 0 30 = t at *
    clear ht0
    replace hs2 := Lib.hid hs2
    refine (L.putName_any t hs2.out w1).mono ?_; rintro e w2 ⟨A1, n1, c1', rfl, hP, hB2⟩
    replace hB := Lib.hid (Bel.trans hB.out hB2)
    replace hP := Lib.hid hP
    clear hB2
    go_wp2_with (fail)
    refine (L.rputName_any t hs2.out w2).mono ?_; rintro e w3 ⟨A2, n2, c2', rfl, hR, hB3⟩
    replace hB := Lib.hid (Bel.trans hB.out hB3)
    replace hP := Lib.hid (hP.out.below hB3)
    replace hR := Lib.hid hR
    clear hB3
    go_wp2_with (fail)
    refine (L.fewOf_any w3 A n c xs (hX0.out.below hB.out)).mono ?_; rintro e w' ⟨rfl, rfl⟩
    rw [hmm.out]
    go_wp2_with (fail)
    refine (L.takeName_any (hX.out.below hB.out) (by omega)).mono ?_; rintro e w4 ⟨rfl, hB4⟩
    unfold L.tnV
    replace hB := Lib.hid (Bel.trans hB.out hB4)
    replace hP := Lib.hid (hP.out.below hB4)
    replace hR := Lib.hid (hR.out.below hB4)
    clear hB4
    go_wp2_with (fail)
    refine (L.fewOf_any w4 A n c xs (hX0.out.below hB.out)).mono ?_; rintro e w' ⟨rfl, rfl⟩
    rw [hmm.out]
    go_wp2_with (fail)
    refine (L.rtakeName_any (hX.out.below hB.out) (by omega)).mono ?_; rintro e w5 ⟨rfl, hB5⟩
    unfold L.tnV
    replace hB := Lib.hid (Bel.trans hB.out hB5)
    replace hP := Lib.hid (hP.out.below hB5)
    replace hR := Lib.hid (hR.out.below hB5)
    clear hB5
    generalize L.tnE bs = E at *
    generalize L.tnN bs = M at *
    generalize strOfNums (L.tnS bs) = X at *
    have CN := Lib.hid (fun w => L.name_any t hs2.out w)
    have CR := Lib.hid (fun w => L.rname_any t hs2.out w)
    generalize L.name (L.bs t) = q at *
    generalize L.pnB (L.bs t) = pb at *
    generalize L.pnE (L.bs t) = pe at *
    go_wp2_with (fail)
    refine (CN.out _).mono ?_; rintro e w' ⟨rfl, rfl⟩
    go_wp2_with (fail)
    refine (CR.out _).mono ?_; rintro e w' ⟨rfl, rfl⟩
    clear CN CR hX hX0
    go_wp2_with (first
      | (with_reducible refine want_do (o := ⟨some 57, _, _, _, _, _⟩) rfl (exec_text Try.underlying23 Try.underlying5 Try.underlying9 (.tmp 56) rfl rfl hP.out) ?_)
      | (with_reducible refine want_do (o := ⟨some 59, _, _, _, _, _⟩) rfl (exec_text Try.underlying23 Try.underlying5 Try.underlying9 (.tmp 58) rfl rfl hR.out) ?_))
    go_ret
    exact ⟨rfl, hB.out⟩
end Go.Proofs.Ytldehcpdeeilnaa
