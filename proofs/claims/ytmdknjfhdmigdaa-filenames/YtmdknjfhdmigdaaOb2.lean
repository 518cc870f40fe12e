/-
  The closures of object.May that ask names; object.May.
-/
import Derived.Test.YtmdknjfhdmigdaaOb1
import Derived.Test.YtmdknjfhdmigdaaCh6
import Derived.Test.YtmdknjfhdmigdaaLe1
import Derived.StillTailTactics
namespace Go.Proofs.Ytmdknjfhdmigdaa
open Go.RowKit
set_option linter.unusedVariables false
set_option linter.unusedSimpArgs false
set_option maxRecDepth 100000
theorem Below.newCell {w : World} {p : Addr} {v : Value} (h : w.cell? p = some v) (o : Obj) : (w.alloc o).cell? p = some v :=
  (World.cell?_of_block (Below.heap_alloc w o p.block (World.block_lt_of_cell? w p h))).trans h
/-- a place beyond, or none -/
theorem Ob.nowhere_any {w : World} {E : Nat} {e : Int} (s : ByteArray) (a : Int) (g : w.cell? ⟨E, 0, none⟩ = some (.int .i64 e)) :
    Calls Try.prog 40 #[.agg #[.string s, .int .i64 a], .pointer (some ⟨E, 0, none⟩)] w fun e' w' => e' = .returned (.bool (!decide (0 ≤ a ∧ a ≤ e ∧ a % 4 = 0))) ∧ Below w.heap.size w w' := by
  have g2 := Below.newCell g (.cells #[.string s, .int .i64 a] 52)
  have hm := Lib.hid ((Kept.refl w).alloc #[.string s, .int .i64 a] 52).below
  clear g
  obtain ⟨q, hq⟩ : ∃ q, q = !decide (0 ≤ a ∧ a ≤ e ∧ a % 4 = 0) := ⟨_, rfl⟩
  rw [← hq]
  by_cases c1 : a < 0
  · have R := Lib.hid (show q = true by rw [hq, decide_eq_false (by omega)]; rfl)
    clear hq
    go_enter Try.func40, Try.ntmps40
    go_wp2
    go_ret
    exact ⟨Ob.retB R.out.symm, hm.out⟩
  · by_cases c2 : e < a
    · have R := Lib.hid (show q = true by rw [hq, decide_eq_false (by omega)]; rfl)
      clear hq
      go_enter Try.func40, Try.ntmps40
      go_wp2
      go_ret
      exact ⟨Ob.retB R.out.symm, hm.out⟩
    · by_cases c3 : a % 4 = 0
      · have R := Lib.hid (show q = false by rw [hq, decide_eq_true (by omega)]; rfl)
        clear hq
        go_enter Try.func40, Try.ntmps40
        go_wp2
        go_ret
        exact ⟨Ob.retB R.out.symm, hm.out⟩
      · have R := Lib.hid (show q = true by rw [hq, decide_eq_false (by omega)]; rfl)
        have c4 : (a % 4 != 0) = true := by simpa using c3
        have c5 : (a % 4 == 0) = false := by simpa using c3
        clear hq
        go_enter Try.func40, Try.ntmps40
        go_wp2
        go_ret
        exact ⟨Ob.retB R.out.symm, hm.out⟩
theorem Ob.wrongInTurn_any (w : World) :
    Calls Try.prog 43 #[] w fun e w' => e = .returned (.func (.func 55) #[] #[.pointer (some ⟨w.heap.size, 0, none⟩)]) ∧ w' = w.alloc (.cells #[.string Ob.e0] 9) := by
  have e : Ob.e0 = { data := #[] } := rfl
  rw [e]
  go_enter Try.func43, Try.ntmps43
  go_wp2
  go_ret
  exact ⟨rfl, rfl⟩
/-- the closure that has the name ahead -/
theorem Ob.turn_any {w : World} {G : Nat} {p : ByteArray} (hG : Has G #[.string p] 9 w) (s : ByteArray) (a : Int) (hs : s.size ≤ 1000000) :
    Calls Try.prog 55 #[.agg #[.string s, .int .i64 a], .pointer (some ⟨G, 0, none⟩)] w fun e w' => e = .returned (.bool (!decide (L.name (L.bs s) = true ∧ Ob.bl p s = true))) ∧ Has G #[.string s] 9 w' ∧ But G w w' := by
  have hG1 := hG.alloc (.cells #[.string s, .int .i64 a] 52)
  have hm := Lib.hid (((But.refl G w).setCell 0 (.string s)).trans (((Kept.refl _).alloc #[.string s, .int .i64 a] 52).but G))
  have g1 := hG1.cell 0 (.string p) rfl
  have g2 := hG1.free 0
  have hG2 := Lib.hid (show Has G #[.string s] 9 _ from (hG.set 0 (.string s)).alloc (.cells #[.string s, .int .i64 a] 52))
  have C := Lib.hid (fun w => L.name_any s hs w)
  have hlt := hG.lt
  have hne : (G = w.heap.size) = False := eq_false (by omega)
  clear hG hG1
  obtain ⟨q, hq⟩ : ∃ q, q = !decide (L.name (L.bs s) = true ∧ Ob.bl p s = true) := ⟨_, rfl⟩
  rw [← hq]
  cases c1 : L.name (L.bs s) with
  | false =>
    have R := Lib.hid (show q = true by rw [hq, decide_eq_false (by rw [c1]; simp)]; rfl)
    rw [c1] at C
    clear hq
    go_enter Try.func55, Try.ntmps55
    go_wp2_with (fail)
    refine (C.out _).mono ?_; rintro e w2 ⟨rfl, rfl⟩
    go_wp2
    go_ret
    exact ⟨Ob.retB R.out.symm, hG2.out, hm.out⟩
  | true =>
    rw [c1] at C
    cases c2 : Ob.bl p s with
    | true =>
      have R := Lib.hid (show q = false by rw [hq, decide_eq_true ⟨c1, c2⟩]; rfl)
      have c3 := Ob.le_not c2
      clear hq
      go_enter Try.func55, Try.ntmps55
      go_wp2_with (fail)
      refine (C.out _).mono ?_; rintro e w2 ⟨rfl, rfl⟩
      go_wp2
      go_ret
      exact ⟨Ob.retB R.out.symm, hG2.out, hm.out⟩
    | false =>
      have R := Lib.hid (show q = true by rw [hq, decide_eq_false (by rw [c2]; simp)]; rfl)
      have c3 := Ob.le_yes c2
      clear hq
      go_enter Try.func55, Try.ntmps55
      go_wp2_with (fail)
      refine (C.out _).mono ?_; rintro e w2 ⟨rfl, rfl⟩
      go_wp2
      go_ret
      exact ⟨Ob.retB R.out.symm, hG2.out, hm.out⟩
end Go.Proofs.Ytmdknjfhdmigdaa
