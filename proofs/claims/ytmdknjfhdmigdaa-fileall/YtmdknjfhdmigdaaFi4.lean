/-
  The contract of Take of package file.
-/
import Derived.Test.YtmdknjfhdmigdaaFi3
import Derived.Test.YtmdknjfhdmigdaaFiQ
import Derived.Test.YtmdknjfhdmigdaaCh7
namespace Go.Proofs.Ytmdknjfhdmigdaa
open Go.RowKit
set_option linter.unusedVariables false
set_option linter.unusedSimpArgs false
set_option maxRecDepth 100000
theorem Fi.built26 : Try.prog.built 26 [] = some #[.slice none 0 0, .slice none 0 0, .slice none 0 0] := by kernel_rfl
theorem Fi.exec26 {o : Oper} {a : Act} {w : World} (ho : o.op = .build 26 #[]) : (execOp a.eval o).run Try.prog w = .ok (.value (.agg #[.slice none 0 0, .slice none 0 0, .slice none 0 0])) w := by
  refine exec_build 26 #[] ho _ ?_
  rw [Array.map_empty]
  exact Fi.built26
/-- what Take hands back -/
def Fi.TakeR (w w' : World) (e : Ending) (t : Except Int (List Int × List Int × List Ob.Y)) : Prop :=
  ∃ A n c B m d C k f, e = .returned (.tuple #[.agg #[.slice A n c, .slice B m d, .slice C k f], .int .i64 (Fi.tE t)]) ∧ Wo w' A n c (Fi.tW t) ∧ In w' B m d (Fi.tS t) ∧ Sy w' C k f (Fi.tY t) ∧ Below w.heap.size w w'
theorem Fi.takeR_err {w w' : World} {e : Ending} {z : Int} (he : e = .returned (.tuple #[.agg #[.slice none 0 0, .slice none 0 0, .slice none 0 0], .int .i64 z])) (hb : Below w.heap.size w w') : Fi.TakeR w w' e (.error z) :=
  ⟨none, 0, 0, none, 0, 0, none, 0, 0, he, Rw.empty _ _ _, Rg.empty _ _, Sy.empty _, hb⟩
theorem Fi.take_1 {bs : List Int} {z : Int} (h : Fi.parts bs = .error z) : Fi.take bs = .error z := by unfold Fi.take; rw [h]
theorem Fi.take_2 {bs P : List Int} {h : Int} {ys : List Ob.Y} (hp : Fi.parts bs = .ok (P, h, ys)) (hR : Ch.R P h = none) : Fi.take bs = .error 10 := by
  unfold Fi.take; rw [hp]; simp only [hR]
theorem Fi.take_3 {bs P : List Int} {h : Int} {ys : List Ob.Y} {d : List Nat} (hp : Fi.parts bs = .ok (P, h, ys)) (hR : Ch.R P h = some d) (hm : ¬ Ob.may (Ch.uW P (some d)) (Ch.uS (some d)) ys = 0) : Fi.take bs = .error 6 := by
  unfold Fi.take; rw [hp]; simp only [hR]; rw [if_neg hm]
theorem Fi.take_4 {bs P : List Int} {h : Int} {ys : List Ob.Y} {d : List Nat} (hp : Fi.parts bs = .ok (P, h, ys)) (hR : Ch.R P h = some d) (hm : Ob.may (Ch.uW P (some d)) (Ch.uS (some d)) ys = 0) : Fi.take bs = .ok (Ch.uW P (some d), Ch.uS (some d), ys) := by
  unfold Fi.take; rw [hp]; simp only [hR]; rw [if_pos hm]
set_option maxHeartbeats 4000000 in
set_option maxRecDepth 100000 in
theorem Fi.take_any {w : World} {A : Option Addr} {m c : Nat} {bs : List Int} (h : By w A m c bs) (hm : m ≤ 1000000) :
    Calls Try.prog 13 #[.slice A m c] w fun e w' => Fi.TakeR w w' e (Fi.take bs) := by
  have hbr := Lib.hid h.rng
  have hG := Lib.hid (Has.new #[.slice none 0 0, .slice none 0 0, .slice none 0 0] 26 w)
  have hB := (((Kept.refl w).alloc #[.slice none 0 0, .slice none 0 0, .slice none 0 0] 26).below)
  have hX := Lib.hid (h.below hB)
  have hS : w.heap.size ≤ (w.alloc (.cells #[.slice none 0 0, .slice none 0 0, .slice none 0 0] 26)).heap.size := hB.size
  replace hB := Lib.hid hB
  obtain ⟨X, hXe⟩ : ∃ X, Fi.take bs = X := ⟨_, rfl⟩
  rw [hXe]
  replace hXe := Lib.hid hXe
  clear h
  go_enter Try.func13, Try.ntmps13
  go_wp2_with (fail)
  generalize w.alloc (.cells #[.slice none 0 0, .slice none 0 0, .slice none 0 0] 26) = w1 at *
  refine (Fi.takeParts_any hX.out hm).mono ?_; intro e w2 hq
  cases hp : Fi.parts bs with
  | error z =>
    rw [hp] at hq
    obtain ⟨rfl, hE⟩ := hq
    have X1 := hXe.out.symm.trans (Fi.take_1 hp)
    have hz : z ≠ 0 := by
      have := Fi.parts_err hp
      unfold Fi.Err at this
      omega
    have z1 : (z == 0) = false := by simpa using hz
    have z2 : (z != 0) = true := by simpa using hz
    subst X1
    have hA := ((Kept.refl w2).alloc #[.slice none 0 0, .int .i64 0, .slice none 0 0] 57).below
    have hB2 := hB.out.trans (hE.mono hS)
    replace hB := Lib.hid (hB2.trans (hA.mono hB2.size))
    replace hG := Lib.hid ((hG.out.below hE).below hA)
    clear hE hX hA hB2 hp hXe
    go_wp2_with (first
      | (with_reducible refine want_do (o := ⟨some 16, _, _, _, _, _⟩) rfl (Fi.exec26 rfl) ?_)
      | (with_reducible refine store_has (o := ⟨none, _, _, _, _, _⟩) rfl 26 (.tmp 2) (.tmp 16) rfl w.heap.size #[.slice none 0 0, .slice none 0 0, .slice none 0 0] rfl rfl hG.out (Ob.info26 _ _ _) rfl (Ob.oneS _ _ _ _ _ _ _ _ _) ?_)
      | fail)
    refine bodyPost_ret (results_has2 rfl w.heap.size rfl (hG.out.row _) Try.underlying26 rfl (Ob.info26 _ _ _)) rfl ?_
    exact Fi.takeR_err rfl (Bel.setRow hB.out (Nat.le_refl _) _)
  | ok p =>
    obtain ⟨P, hd, ys⟩ := p
    rw [hp] at hq
    obtain ⟨A1, n, c1, C, f, rfl, hW, hO, hE⟩ := hq
    obtain ⟨p1, p2, p3, p4, p5⟩ := Fi.parts_taken hbr.out hp
    have hnl := hW.len
    have hsz : ∀ y ∈ ys, y.1.size ≤ 1000000 := fun y hy => by have := (p4 y hy).2; omega
    replace hsz := Lib.hid hsz
    replace p5 := Lib.hid p5
    replace hp := Lib.hid hp
    clear p3 p4
    obtain ⟨ny, hny⟩ : ∃ ny, ys.length = ny := ⟨_, rfl⟩
    rw [hny] at hO ⊢
    have hA := ((Kept.refl w2).alloc #[.slice A1 n c1, .int .i64 hd, .slice C ny f] 57).below
    have hPb := Lib.hid (Has.new #[.slice A1 n c1, .int .i64 hd, .slice C ny f] 57 w2)
    have hB2 := hB.out.trans (hE.mono hS)
    have hS0 := hS
    replace hS := Nat.le_trans hS hE.size
    replace hB := Lib.hid (hB2.trans (hA.mono hB2.size))
    replace hG := Lib.hid ((hG.out.below hE).below hA)
    replace hW := Lib.hid (hW.below hA)
    replace hO := Lib.hid ((hO.below hA).lower hS0)
    clear hE hX
    go_wp2_with (fail)
    clear hA hB2 hS0
    generalize w2.alloc (.cells #[.slice A1 n c1, .int .i64 hd, .slice C ny f] 57) = w3 at *
    generalize w2.heap.size = Bp at *
    have hS3 := hB.out.size
    refine (Ch.unpack_any hW.out (by omega) hd).mono ?_; rintro e w4 ⟨A2, n2, c2, A3, n3, c3, rfl, hU, hV, hE⟩
    replace hB := Lib.hid (hB.out.trans (hE.mono hS3))
    replace hG := Lib.hid (hG.out.below hE)
    replace hPb := hPb.out.below hE
    replace hO := Lib.hid (hO.out.below hE)
    replace hU := hU.lower hS3
    replace hV := hV.lower hS3
    clear hE hW
    cases hR : Ch.R P hd with
    | none =>
      have X1 := hXe.out.symm.trans (Fi.take_2 hp.out hR)
      subst X1
      rw [show Ch.uE none = 10 from rfl]
      clear hPb hU hV hO hXe hp
      go_wp2_with (first
        | (with_reducible refine want_do (o := ⟨some 29, _, _, _, _, _⟩) rfl (Fi.exec26 rfl) ?_)
        | (with_reducible refine store_has (o := ⟨none, _, _, _, _, _⟩) rfl 26 (.tmp 2) (.tmp 29) rfl w.heap.size #[.slice none 0 0, .slice none 0 0, .slice none 0 0] rfl rfl hG.out (Ob.info26 _ _ _) rfl (Ob.oneS _ _ _ _ _ _ _ _ _) ?_)
        | fail)
      refine bodyPost_ret (results_has2 rfl w.heap.size rfl (hG.out.row _) Try.underlying26 rfl (Ob.info26 _ _ _)) rfl ?_
      exact Fi.takeR_err rfl (Bel.setRow hB.out (Nat.le_refl _) _)
    | some dd =>
      have T3 := Lib.hid (fun q => hXe.out.symm.trans (Fi.take_3 hp.out hR q))
      have T4 := Lib.hid (fun q => hXe.out.symm.trans (Fi.take_4 hp.out hR q))
      rw [hR] at hU hV
      rw [show Ch.uE (some dd) = 0 from rfl]
      have hUr := Lib.hid (Ch.uW_rng p5.out (some dd))
      generalize Ch.uW P (some dd) = W' at *
      generalize Ch.uS (some dd) = S' at *
      have o2 := hPb.cell 2 (.slice C ny f) rfl
      have hA := ((Kept.refl w4).alloc #[.slice A2 n2 c2, .slice A3 n3 c3, .slice C ny f] 26).below
      have hN := Lib.hid (Has.new #[.slice A2 n2 c2, .slice A3 n3 c3, .slice C ny f] 26 w4)
      have hS4 := hB.out.size
      replace hB := Lib.hid (hB.out.trans (hA.mono hS4))
      replace hG := Lib.hid (hG.out.below hA)
      replace hO := Lib.hid (hO.out.below hA)
      replace hU := Lib.hid (hU.below hA)
      replace hV := Lib.hid (hV.below hA)
      clear hA hXe hp hPb hR
      go_wp2_with (first
        | (with_reducible refine load_has (o := ⟨some 36, _, _, _, _, _⟩) rfl 26 (.tmp 8) rfl w4.heap.size rfl hN.out Try.underlying26 rfl (Ob.info26 _ _ _) ?_)
        | fail)
      clear o2
      generalize w4.alloc (.cells #[.slice A2 n2 c2, .slice A3 n3 c3, .slice C ny f] 26) = w5 at *
      generalize w4.heap.size = Bo at *
      have hS5 := hB.out.size
      refine (Ob.may_any (hU.out.rg.rw hUr.out) hV.out.rg hO.out.sy hsz.out).mono ?_; rintro e w6 ⟨rfl, hE⟩
      replace hB := Lib.hid (hB.out.trans (hE.mono hS5))
      replace hG := Lib.hid (hG.out.below hE)
      replace hN := Lib.hid (hN.out.below hE)
      replace hO := Lib.hid (hO.out.below hE)
      replace hU := Lib.hid (hU.out.below hE)
      replace hV := Lib.hid (hV.out.below hE)
      clear hE
      by_cases cm : Ob.may W' S' ys = 0
      · have X1 := T4.out cm
        subst X1
        rw [cm]
        clear T3 T4
        go_wp2_with (first
          | (with_reducible refine load_has (o := ⟨some 40, _, _, _, _, _⟩) rfl 26 (.tmp 8) rfl Bo rfl hN.out Try.underlying26 rfl (Ob.info26 _ _ _) ?_)
          | (with_reducible refine store_has (o := ⟨none, _, _, _, _, _⟩) rfl 26 (.tmp 2) (.tmp 40) rfl w.heap.size #[.slice A2 n2 c2, .slice A3 n3 c3, .slice C ny f] rfl rfl hG.out (Ob.info26 _ _ _) rfl (Ob.oneS _ _ _ _ _ _ _ _ _) ?_)
          | fail)
        refine bodyPost_ret (results_has2 rfl w.heap.size rfl (hG.out.row _) Try.underlying26 rfl (Ob.info26 _ _ _)) rfl ?_
        refine ⟨A2, n2, c2, A3, n3, c3, C, ny, f, rfl, (hU.out.otherRow hG.out (by decide) _).rg.rw hUr.out, (hV.out.otherRow hG.out (by decide) _).rg, (hO.out.otherRow hG.out (by decide) _).sy, Bel.setRow hB.out (Nat.le_refl _) _⟩
      · have X1 := T3.out cm
        subst X1
        generalize Ob.may W' S' ys = z at *
        have z1 : (z == 0) = false := by simpa using cm
        have z2 : (z != 0) = true := by simpa using cm
        clear T3 T4 hU hV hO hN
        go_wp2_with (first
          | (with_reducible refine want_do (o := ⟨some 39, _, _, _, _, _⟩) rfl (Fi.exec26 rfl) ?_)
          | (with_reducible refine store_has (o := ⟨none, _, _, _, _, _⟩) rfl 26 (.tmp 2) (.tmp 39) rfl w.heap.size #[.slice none 0 0, .slice none 0 0, .slice none 0 0] rfl rfl hG.out (Ob.info26 _ _ _) rfl (Ob.oneS _ _ _ _ _ _ _ _ _) ?_)
          | fail)
        refine bodyPost_ret (results_has2 rfl w.heap.size rfl (hG.out.row _) Try.underlying26 rfl (Ob.info26 _ _ _)) rfl ?_
        exact Fi.takeR_err rfl (Bel.setRow hB.out (Nat.le_refl _) _)
end Go.Proofs.Ytmdknjfhdmigdaa
