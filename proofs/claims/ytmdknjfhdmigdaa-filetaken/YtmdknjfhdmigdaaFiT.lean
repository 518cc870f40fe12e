/-
  The walk of FileTaken.
-/
import Derived.Test.YtmdknjfhdmigdaaFi8
namespace Go.Proofs.Ytmdknjfhdmigdaa
open Go.RowKit
set_option linter.unusedVariables false
set_option linter.unusedSimpArgs false
set_option maxRecDepth 100000
set_option maxHeartbeats 4000000 in
set_option maxRecDepth 100000 in
theorem walk_taken (w : World) (E : Option Addr) (l h : Nat) (bs0 : List Int) (hb : By w E l h bs0) :
    Calls Try.prog 5 #[.slice E l h] w fun e w' => e = .returned (.bool true) ∧ Below w.heap.size w w' := by
  have hE0 := Lib.hid hb
  have hE1 := hb.take (min l 400) (by omega)
  have hl4 : min l 400 ≤ 400 := by omega
  generalize hml : min l 400 = l1 at *
  replace hml := Lib.hid hml
  generalize bs0.take l1 = bs at *
  replace hE1 := Lib.hid hE1
  clear hb
  go_enter Try.func5, Try.ntmps5
  go_wp2_with (fail)
  refine (Fi.shown_any w).mono ?_; rintro r w2 ⟨rfl, hE⟩
  have hB := Lib.hid hE
  clear hE
  go_wp2_with (fail)
  refine (Fi.fewOf_any _ E l h bs0 (hE0.out.below hB.out)).mono ?_; rintro r wq ⟨rfl, rfl⟩
  rw [hml.out]
  go_wp2_with (fail)
  refine (Fi.take_any (hE1.out.below hB.out) (by omega)).mono ?_; rintro r w7 ⟨A7, n7, c7, B7, m7, d7, C7, k7, f7, rfl, hW7, hS7, hY7, hE⟩
  have hA := ((Kept.refl w7).alloc #[.slice A7 n7 c7, .slice B7 m7 d7, .slice C7 k7 f7] 26).below
  have hO7 := Lib.hid (Has.new #[.slice A7 n7 c7, .slice B7 m7 d7, .slice C7 k7 f7] 26 w7)
  have hBx := hB.out.trans (hE.mono hB.out.size)
  replace hB := Lib.hid (hBx.trans (hA.mono hBx.size))
  replace hW7 := Lib.hid (hW7.below hA)
  replace hS7 := Lib.hid (hS7.below hA)
  replace hY7 := Lib.hid (hY7.below hA)
  clear hE hA hBx
  have hE7 := Lib.hid (hE1.out.below hB.out)
  have o0 := hO7.out.cell 0 (.slice A7 n7 c7) rfl
  have o1 := hO7.out.cell 1 (.slice B7 m7 d7) rfl
  have o2 := hO7.out.cell 2 (.slice C7 k7 f7) rfl
  cases hT : Fi.take bs with
  | error z =>
    rw [hT] at hW7 hS7 hY7
    rw [show Fi.tE (.error z) = z from rfl]
    have hz := Fi.take_err hT
    unfold Fi.Err at hz
    have z0 : ¬ z = 0 := by omega
    have z7 : ¬ z = 7 := by omega
    have z8 : ¬ z = 8 := by omega
    have a0 : (z == 0) = false := by simpa using z0
    have b0 : (z != 0) = true := by simpa using z0
    have a7 : (z == 7) = false := by simpa using z7
    have b7 : (z != 7) = true := by simpa using z7
    have a8 : (z == 8) = false := by simpa using z8
    have b8 : (z != 8) = true := by simpa using z8
    clear hT hz
    go_wp2_with (first
      | (with_reducible refine want_do (o := ⟨some 22, _, _, _, _, _⟩) rfl (Fi.exec26 rfl) ?_)
      | fail)
    clear o0 o1 o2
    generalize hw8 : w7.alloc (.cells #[.slice A7 n7 c7, .slice B7 m7 d7, .slice C7 k7 f7] 26) = w8 at *
    clear hw8
    refine (Ob.same_any hW7.out hS7.out hY7.out (Rw.empty _ _ _) (Rg.empty _ _) (Sy.empty _)).mono ?_; rintro r w9 ⟨rfl, hE⟩
    rw [show Ob.same (Fi.tW (.error z)) (Fi.tS (.error z)) (Fi.tY (.error z)) [] [] [] = true from rfl]
    replace hB := Lib.hid (hB.out.trans (hE.mono hB.out.size))
    clear hE
    go_wp2
    go_ret
    exact ⟨rfl, hB.out⟩
  | ok p =>
    obtain ⟨W, S, Y⟩ := p
    rw [hT] at hW7 hS7 hY7
    obtain ⟨hm, hpt, hr, hsz⟩ := Fi.taken hE1.out.rng hT
    have hPB : Fi.pB W S Y = bs := by unfold Fi.pB; rw [if_pos hm, hpt]
    rw [show Fi.tE (.ok (W, S, Y)) = 0 from rfl]
    have CP := fun (v : World) (h1 : Wo v A7 n7 c7 W) (h2 : In v B7 m7 d7 S) (h3 : Sy v C7 k7 f7 Y) => Fi.put_any h1 h2 h3 hsz
    have CM := fun (v : World) (h1 : Wo v A7 n7 c7 W) (h2 : In v B7 m7 d7 S) (h3 : Sy v C7 k7 f7 Y) => Ob.may_any h1 h2 h3 hsz
    rw [hm, hPB] at CP
    rw [hm] at CM
    replace CP := Lib.hid CP
    replace CM := Lib.hid CM
    have hbr := Lib.hid hE1.out.rng
    clear hT hm hpt hPB hsz hr
    go_wp2_with (fail)
    clear o0 o1 o2
    generalize hw8 : w7.alloc (.cells #[.slice A7 n7 c7, .slice B7 m7 d7, .slice C7 k7 f7] 26) = w8 at *
    clear hw8
    refine (CP.out _ hW7.out hS7.out hY7.out).mono ?_; rintro r w9 ⟨A9, n9, c9, rfl, hP, hE⟩
    replace hB := Lib.hid (hB.out.trans (hE.mono hB.out.size))
    replace hP := Lib.hid (hP.rg.rw (L := 256) hbr.out)
    replace hE7 := Lib.hid (hE7.out.below hE)
    replace hW7 := Lib.hid (hW7.out.below hE)
    replace hS7 := Lib.hid (hS7.out.below hE)
    replace hY7 := Lib.hid (hY7.out.below hE)
    replace hO7 := hO7.out.below hE
    clear hE CP
    have o0 := hO7.cell 0 (.slice A7 n7 c7) rfl
    have o1 := hO7.cell 1 (.slice B7 m7 d7) rfl
    have o2 := hO7.cell 2 (.slice C7 k7 f7) rfl
    clear hO7
    go_wp2_with (first
      | (with_reducible refine want_do (o := ⟨some 45, _, _, _, _, _⟩) rfl (exec_text Try.underlying27 Try.underlying5 Try.underlying9 (.tmp 44) rfl rfl hP.out) ?_)
      | (with_reducible refine want_do (o := ⟨some 47, _, _, _, _, _⟩) rfl (exec_text Try.underlying27 Try.underlying5 Try.underlying9 (.tmp 46) rfl rfl hE7.out) ?_)
      | fail)
    clear o0 o1 o2
    refine (CM.out _ hW7.out hS7.out hY7.out).mono ?_; rintro r w10 ⟨rfl, hE⟩
    replace hB := Lib.hid (hB.out.trans (hE.mono hB.out.size))
    clear hE
    go_wp2
    go_ret
    exact ⟨rfl, hB.out⟩
end Go.Proofs.Ytmdknjfhdmigdaa
