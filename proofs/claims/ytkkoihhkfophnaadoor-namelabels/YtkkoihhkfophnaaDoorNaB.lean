/-
  The head of all statements (shown), few; the walk of NameAll.
-/
import Derived.Test.YtkkoihhkfophnaaDoorNaA
namespace Go.Proofs.YtkkoihhkfophnaaDoor
open Go.RowKit
set_option linter.unusedVariables false
set_option linter.unusedSimpArgs false
set_option maxRecDepth 100000
theorem Na.ofV_some (t : Int × Int × Bool) : Na.ofV (some t) = .tuple #[.int .i64 t.1, .int .i64 t.2.1, .bool t.2.2, .bool true] := rfl
theorem Na.of_bllt : Na.of (L.bs ⟨#[66, 76, 76, 84]⟩) = some (7, 5, true) := by decide +kernel
theorem Na.of_blt : Na.of (L.bs ⟨#[66, 76, 84]⟩) = some (7, 5, false) := by decide +kernel
set_option maxHeartbeats 1000000 in
set_option maxRecDepth 100000 in
theorem Na.shown_any {w : World} (hC : Na.Conds w) : Calls Tryd.prog 8 #[] w fun e w' => e = .returned (.bool true) ∧ Below w.heap.size w w' := by
  have C1 := Lib.hid (Na.of_any ⟨#[66, 76, 76, 84]⟩ hC)
  rw [Na.of_bllt, Na.ofV_some] at C1
  have C2 := Lib.hid (fun (w2 : World) (hB : Below w.heap.size w w2) => Na.of_any ⟨#[66, 76, 84]⟩ (hC.below hB))
  simp only [Na.of_blt, Na.ofV_some] at C2
  clear hC
  go_enter Tryd.func8, Tryd.ntmps8
  go_wp2_with (fail)
  refine C1.out.mono ?_; rintro e w2 ⟨rfl, hB⟩
  have D := Lib.hid (C2.out _ hB)
  replace hB := Lib.hid hB
  clear C1 C2
  go_wp2_with (fail)
  refine D.out.mono ?_; rintro e w3 ⟨rfl, hB2⟩
  replace hB2 := Lib.hid (Bel.trans hB.out hB2)
  go_wp2
  go_ret
  exact ⟨rfl, hB2.out⟩
theorem Na.few_any (s : ByteArray) (hs : s.size ≤ maxLen) (w : World) : Calls Tryd.prog 9 #[.string s] w fun e w' => ∃ t : ByteArray, e = .returned (.string t) ∧ t.size ≤ 20 ∧ w = w' := by
  unfold maxLen at hs
  have hs1 : (s.size : Int) ≤ 9223372036854775807 := by omega
  have hz : (s.extract 0 (min s.size 20)).size ≤ 20 := by simp; omega
  by_cases c : (s.size : Int) ≤ 20
  · have e : s.extract 0 s.size = s := by simp
    have hz2 : s.size ≤ 20 := by omega
    clear hz
    go_enter Tryd.func9, Tryd.ntmps9
    go_wp2
    go_ret
    exact ⟨_, rfl, by first | exact hz2 | (simp; omega), rfl⟩
  · have hz2 : (s.extract 0 20).size ≤ 20 := by simp; omega
    have c2 : ¬ (s.size : Int) < 20 := by omega
    clear hz
    go_enter Tryd.func9, Tryd.ntmps9
    go_wp2
    go_ret
    exact ⟨_, rfl, by first | exact hz2 | (simp; omega), rfl⟩
theorem Na.regV_is (q : Option Int) : ∃ r b, Na.regV q = .tuple #[.int .i64 r, .bool b] := by
  cases q
  · exact ⟨_, _, rfl⟩
  · exact ⟨_, _, rfl⟩
theorem Na.ofV_is (q : Option (Int × Int × Bool)) : ∃ k o u b, Na.ofV q = .tuple #[.int .i64 k, .int .i64 o, .bool u, .bool b] := by
  cases q
  · exact ⟨_, _, _, _, rfl⟩
  · exact ⟨_, _, _, _, rfl⟩
set_option maxHeartbeats 4000000 in
set_option maxRecDepth 100000 in
theorem walk_all (w : World) (s : ByteArray) (hs : s.size ≤ maxLen) (k o : Int) (hk : Na.Wf (k, o, true)) (hC : Na.Conds w) :
    Calls Tryd.prog 3 #[.string s, .int .i64 k, .int .i64 o] w fun e w' => e = .returned (.bool true) ∧ Below w.heap.size w w' := by
  have hk2 : Na.Wf (k, o, false) := ⟨hk.one, hk.two⟩
  have SH := Lib.hid (Na.shown_any hC)
  have FE := Lib.hid (fun w => Na.few_any s hs w)
  have MT := Lib.hid (fun (w2 : World) (hB : Below w.heap.size w w2) => Na.mn_any (hC.below hB) true hk)
  have MF := Lib.hid (fun (w2 : World) (hB : Below w.heap.size w w2) => Na.mn_any (hC.below hB) false hk2)
  have rMT := Lib.hid (fun w => Na.rmn_any k o true w)
  have rMF := Lib.hid (fun w => Na.rmn_any k o false w)
  have RN := Lib.hid (fun w => Na.regName_any o w)
  have rRN := Lib.hid (fun w => Na.rregName_any o w)
  have OF := Lib.hid (fun (w2 : World) (t : ByteArray) (hB : Below w.heap.size w w2) => Na.of_any t (hC.below hB))
  generalize Na.ms k o true = y1 at *
  generalize Na.ms k o false = y2 at *
  generalize Na.rs o = y3 at *
  clear hC hs hk hk2
  go_enter Tryd.func3, Tryd.ntmps3
  go_wp2_with (fail)
  refine SH.out.mono ?_; rintro e w2 ⟨rfl, hB⟩
  replace hB := Lib.hid hB
  go_wp2_with (fail)
  refine (FE.out _).mono ?_; rintro e w3 ⟨t, rfl, ht, rfl⟩
  clear SH FE
  have RE := Lib.hid (fun w => Na.reg_any t w)
  have rRE := Lib.hid (fun w => Na.rreg_any t w)
  have OF2 := Lib.hid (fun (w2 : World) (hB : Below w.heap.size w w2) => OF.out _ t hB)
  have rOF := Lib.hid (fun w => Na.rof_any t w)
  have LA := Lib.hid (fun w => Na.label_any t (by omega) w)
  have rLA := Lib.hid (fun w => Na.rlabel_any t (by omega) w)
  obtain ⟨r, b, hV⟩ := Na.regV_is (Na.reg (L.bs t))
  rw [hV] at RE rRE
  obtain ⟨k', o', u', b', hO⟩ := Na.ofV_is (Na.of (L.bs t))
  simp only [hO] at OF2 rOF
  generalize Na.label (L.bs t) = q at *
  clear hV hO OF ht
  go_wp2_with (fail)
  refine (RE.out _).mono ?_; rintro e w3 ⟨rfl, rfl⟩
  go_wp2_with (fail)
  refine (rRE.out _).mono ?_; rintro e w3 ⟨rfl, hB3⟩
  replace hB3 := Lib.hid (Bel.trans hB.out hB3)
  clear hB RE rRE
  go_wp2_with (fail)
  refine (OF2.out _ hB3.out).mono ?_; rintro e w4 ⟨rfl, hB4⟩
  replace hB4 := Lib.hid (Bel.trans hB3.out hB4)
  clear hB3 OF2
  go_wp2_with (fail)
  refine (rOF.out _).mono ?_; rintro e w5 ⟨rfl, rfl⟩
  clear rOF
  go_wp2_with (fail)
  refine (LA.out _).mono ?_; rintro e w5 ⟨rfl, rfl⟩
  go_wp2_with (fail)
  refine (rLA.out _).mono ?_; rintro e w5 ⟨rfl, rfl⟩
  clear LA rLA
  go_wp2_with (fail)
  refine (MT.out _ hB4.out).mono ?_; rintro e w5 ⟨rfl, hB5⟩
  replace hB5 := Lib.hid (Bel.trans hB4.out hB5)
  clear hB4 MT
  go_wp2_with (fail)
  refine (rMT.out _).mono ?_; rintro e w6 ⟨rfl, rfl⟩
  go_wp2_with (fail)
  refine (MF.out _ hB5.out).mono ?_; rintro e w6 ⟨rfl, hB6⟩
  replace hB6 := Lib.hid (Bel.trans hB5.out hB6)
  clear hB5 MF
  go_wp2_with (fail)
  refine (rMF.out _).mono ?_; rintro e w7 ⟨rfl, rfl⟩
  go_wp2_with (fail)
  refine (RN.out _).mono ?_; rintro e w7 ⟨rfl, rfl⟩
  go_wp2_with (fail)
  refine (rRN.out _).mono ?_; rintro e w7 ⟨rfl, hB7⟩
  replace hB7 := Lib.hid (Bel.trans hB6.out hB7)
  clear hB6 rRN RN rMF rMT
  go_wp2
  go_ret
  exact ⟨rfl, hB7.out⟩
end Go.Proofs.YtkkoihhkfophnaaDoor
