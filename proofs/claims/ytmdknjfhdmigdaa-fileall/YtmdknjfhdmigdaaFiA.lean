/-
  The walk of FileAll.
-/
import Derived.Test.YtmdknjfhdmigdaaFi8
namespace Go.Proofs.Ytmdknjfhdmigdaa
open Go.RowKit
set_option linter.unusedVariables false
set_option linter.unusedSimpArgs false
set_option maxRecDepth 100000
set_option maxHeartbeats 4000000 in
set_option maxRecDepth 100000 in
theorem walk_all (w : World) (A B C : Option Addr) (n c m d k e : Nat) (ws ss : List Int) (ys : List Ob.Y) (hW : Wo w A n c ws) (hS : In w B m d ss) (hY : Sy w C k e ys) (hsz : ∀ y ∈ ys, y.1.size ≤ 9223372036854775807)
    (E : Option Addr) (l h : Nat) (bs0 : List Int) (hb : By w E l h bs0) :
    Calls Try.prog 3 #[.agg #[.slice A n c, .slice B m d, .slice C k e], .slice E l h] w fun e w' => e = .returned (.bool true) ∧ Below w.heap.size w w' := by
  have hO := Lib.hid (Has.new #[.slice A n c, .slice B m d, .slice C k e] 26 w)
  have hB := ((Kept.refl w).alloc #[.slice A n c, .slice B m d, .slice C k e] 26).below
  have hS1 : w.heap.size ≤ (w.alloc (.cells #[.slice A n c, .slice B m d, .slice C k e] 26)).heap.size := hB.size
  have CF := fun (v : World) (hv : Below w.heap.size w v) => Ob.few_any (hW.below hv) (hS.below hv) (hY.below hv) hsz
  have hXw := hW.take (min n 30) (by omega)
  have hXs := hS.take (min m 30) (by omega)
  have hQz := Lib.hid (Ob.cuts_size ys (min k 12))
  have hE0 := Lib.hid hb
  have hE1 := hb.take (min l 400) (by omega)
  have hl4 : min l 400 ≤ 400 := by omega
  generalize hml : min l 400 = l1 at *
  replace hml := Lib.hid hml
  generalize bs0.take l1 = bs at *
  generalize ws.take (min n 30) = xs at *
  generalize ss.take (min m 30) = xt at *
  generalize Ob.cuts ys (min k 12) = xy at *
  generalize min n 30 = n1 at *
  generalize min m 30 = m1 at *
  generalize min k 12 = k1 at *
  replace hB := Lib.hid hB
  replace CF := Lib.hid CF
  replace hXw := Lib.hid hXw
  replace hXs := Lib.hid hXs
  replace hE1 := Lib.hid hE1
  clear hW hS hY hsz hb
  go_enter Try.func3, Try.ntmps3
  go_wp2_with (fail)
  generalize w.alloc (.cells #[.slice A n c, .slice B m d, .slice C k e] 26) = w1 at *
  refine (Fi.shown_any w1).mono ?_; rintro r w2 ⟨rfl, hE⟩
  replace hB := Lib.hid (hB.out.trans (hE.mono hS1))
  have hS2 : w.heap.size ≤ w2.heap.size := Nat.le_trans hS1 hE.size
  replace hO := Lib.hid (hO.out.below hE)
  clear hE
  have o0 := hO.out.cell 0 (.slice A n c) rfl
  have o1 := hO.out.cell 1 (.slice B m d) rfl
  have o2 := hO.out.cell 2 (.slice C k e) rfl
  go_wp2_with (fail)
  clear o0 o1 o2
  refine (CF.out _ hB.out).mono ?_; rintro r w3 ⟨C1, e1, rfl, hQ, hE⟩
  replace hB := Lib.hid (hB.out.trans (hE.mono hS2))
  have hS3 : w.heap.size ≤ w3.heap.size := Nat.le_trans hS2 hE.size
  replace hO := Lib.hid (hO.out.below hE)
  have hQy := Lib.hid hQ.sy
  clear hE hQ
  go_wp2_with (fail)
  refine (Fi.put_any (hXw.out.below hB.out) (hXs.out.below hB.out) hQy.out hQz.out).mono ?_; rintro r w4 ⟨A4, n4, c4, rfl, hP, hE⟩
  have hPB := Lib.hid (Fi.pB_byt (S := xt) (Y := xy) hXw.out.rng)
  obtain ⟨z, hz⟩ : ∃ z, Ob.may xs xt xy = z := ⟨_, rfl⟩
  rw [hz]
  replace hz := Lib.hid hz
  replace hB := Lib.hid (hB.out.trans (hE.mono hS3))
  have hS4 : w.heap.size ≤ w4.heap.size := Nat.le_trans hS3 hE.size
  replace hO := Lib.hid (hO.out.below hE)
  replace hP := Lib.hid (hP.rg.rw (L := 256) hPB.out)
  clear hE hQy
  have o0 := hO.out.cell 0 (.slice A n c) rfl
  have o1 := hO.out.cell 1 (.slice B m d) rfl
  have o2 := hO.out.cell 2 (.slice C k e) rfl
  go_wp2_with (fail)
  clear o0 o1 o2
  refine (CF.out _ hB.out).mono ?_; rintro r w5 ⟨C2, e2, rfl, hQ, hE⟩
  replace hB := Lib.hid (hB.out.trans (hE.mono hS4))
  have hS5 : w.heap.size ≤ w5.heap.size := Nat.le_trans hS4 hE.size
  replace hP := Lib.hid (hP.out.below hE)
  have hQy := Lib.hid hQ.sy
  clear hE hQ hO CF
  go_wp2_with (fail)
  refine (Fi.rput_any (hXw.out.below hB.out) (hXs.out.below hB.out) hQy.out hQz.out).mono ?_; rintro r w6 ⟨A6, n6, c6, rfl, hR, hE⟩
  rw [hz.out]
  replace hB := Lib.hid (hB.out.trans (hE.mono hS5))
  replace hP := Lib.hid (hP.out.below hE)
  replace hR := Lib.hid (hR.rg.rw (L := 256) hPB.out)
  clear hE hQy hQz hz
  generalize Fi.pB xs xt xy = PB at *
  go_wp2_with (fail)
  refine (Fi.fewOf_any _ E l h bs0 (hE0.out.below hB.out)).mono ?_; rintro r wq ⟨rfl, rfl⟩
  rw [hml.out]
  go_wp2_with (fail)
  refine (Fi.take_any (hE1.out.below hB.out) (by omega)).mono ?_; rintro r w7 ⟨A7, n7, c7, B7, m7, d7, C7, k7, f7, rfl, hW7, hS7', hY7, hE⟩
  have hA := ((Kept.refl w7).alloc #[.slice A7 n7 c7, .slice B7 m7 d7, .slice C7 k7 f7] 26).below
  have hO7 := Lib.hid (Has.new #[.slice A7 n7 c7, .slice B7 m7 d7, .slice C7 k7 f7] 26 w7)
  have hBx := hB.out.trans (hE.mono hB.out.size)
  replace hB := Lib.hid (hBx.trans (hA.mono hBx.size))
  replace hW7 := Lib.hid (hW7.below hA)
  replace hS7' := Lib.hid (hS7'.below hA)
  replace hY7 := Lib.hid (hY7.below hA)
  replace hP := Lib.hid ((hP.out.below hE).below hA)
  replace hR := Lib.hid ((hR.out.below hE).below hA)
  clear hE hA hBx
  go_wp2_with (fail)
  generalize hw8 : w7.alloc (.cells #[.slice A7 n7 c7, .slice B7 m7 d7, .slice C7 k7 f7] 26) = w8 at *
  clear hw8
  refine (Fi.fewOf_any _ E l h bs0 (hE0.out.below hB.out)).mono ?_; rintro r wq ⟨rfl, rfl⟩
  rw [hml.out]
  go_wp2_with (fail)
  refine (Fi.rtake_any (hE1.out.below hB.out) (by omega)).mono ?_; rintro r w9 ⟨A9, n9, c9, B9, m9, d9, C9, k9, f9, rfl, hW9, hS9', hY9, hE⟩
  have hA := ((Kept.refl w9).alloc #[.slice A9 n9 c9, .slice B9 m9 d9, .slice C9 k9 f9] 26).below
  have hO9 := Lib.hid (Has.new #[.slice A9 n9 c9, .slice B9 m9 d9, .slice C9 k9 f9] 26 w9)
  have hBx := hB.out.trans (hE.mono hB.out.size)
  replace hB := Lib.hid (hBx.trans (hA.mono hBx.size))
  replace hW9 := Lib.hid (hW9.below hA)
  replace hS9' := Lib.hid (hS9'.below hA)
  replace hY9 := Lib.hid (hY9.below hA)
  replace hP := Lib.hid ((hP.out.below hE).below hA)
  replace hR := Lib.hid ((hR.out.below hE).below hA)
  replace hO7 := Lib.hid ((hO7.out.below hE).below hA)
  replace hW7 := Lib.hid ((hW7.out.below hE).below hA)
  replace hS7' := Lib.hid ((hS7'.out.below hE).below hA)
  replace hY7 := Lib.hid ((hY7.out.below hE).below hA)
  clear hE hA hBx
  have hTW := Lib.hid (Fi.tW_rng (bs := bs) hE1.out.rng)
  generalize Fi.tE (Fi.take bs) = tE at *
  generalize Fi.tW (Fi.take bs) = tW at *
  generalize Fi.tS (Fi.take bs) = tS at *
  generalize Fi.tY (Fi.take bs) = tY at *
  clear hE0 hE1 hml hXw hXs hPB
  have p0 := hO7.out.cell 0 (.slice A7 n7 c7) rfl
  have p1 := hO7.out.cell 1 (.slice B7 m7 d7) rfl
  have p2 := hO7.out.cell 2 (.slice C7 k7 f7) rfl
  have q0 := hO9.out.cell 0 (.slice A9 n9 c9) rfl
  have q1 := hO9.out.cell 1 (.slice B9 m9 d9) rfl
  have q2 := hO9.out.cell 2 (.slice C9 k9 f9) rfl
  go_wp2_with (first
    | (with_reducible refine want_do (o := ⟨some 42, _, _, _, _, _⟩) rfl (exec_text Try.underlying27 Try.underlying5 Try.underlying9 (.tmp 41) rfl rfl hP.out) ?_)
    | (with_reducible refine want_do (o := ⟨some 44, _, _, _, _, _⟩) rfl (exec_text Try.underlying27 Try.underlying5 Try.underlying9 (.tmp 43) rfl rfl hR.out) ?_)
    | fail)
  clear p0 p1 p2 q0 q1 q2
  generalize hw10 : w9.alloc (.cells #[.slice A9 n9 c9, .slice B9 m9 d9, .slice C9 k9 f9] 26) = w10 at *
  clear hw10
  refine (Ob.rsame_any hW7.out hS7'.out hY7.out hW9.out hS9'.out hY9.out).mono ?_; rintro r w11 ⟨rfl, hE⟩
  rw [Ob.same_self]
  replace hB := Lib.hid (hB.out.trans (hE.mono hB.out.size))
  clear hE
  go_wp2
  go_ret
  exact ⟨rfl, hB.out⟩
end Go.Proofs.Ytmdknjfhdmigdaa
