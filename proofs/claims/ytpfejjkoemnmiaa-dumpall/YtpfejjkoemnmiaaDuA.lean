/-
  The walk of DumpAll.
-/
import Derived.Test.YtpfejjkoemnmiaaM15
import Derived.Test.YtpfejjkoemnmiaaDu10
import Derived.Test.YtpfejjkoemnmiaaDu6
import Derived.Test.YtpfejjkoemnmiaaOb7
namespace Go.Proofs.Ytpfejjkoemnmiaa
open Go.RowKit
set_option linter.unusedVariables false
set_option linter.unusedSimpArgs false
set_option maxRecDepth 100000
set_option maxHeartbeats 4000000 in
set_option maxRecDepth 100000 in
theorem walk_all (w : World) (A B C : Option Addr) (n c m d k e : Nat) (ws ss : List Int) (ys : List Ob.Y) (hW : Wo w A n c ws) (hS : In w B m d ss) (hY : Sy w C k e ys) (hsz : ∀ y ∈ ys, y.1.size ≤ 9223372036854775807) (s : ByteArray) (hs : s.size ≤ 9223372036854775807) :
    Calls Try.prog 3 #[.agg #[.slice A n c, .slice B m d, .slice C k e], .string s] w fun e w' => e = .returned (.bool true) ∧ Below w.heap.size w w' := by
  have hO := Lib.hid (Has.new #[.slice A n c, .slice B m d, .slice C k e] 26 w)
  have hB := ((Kept.refl w).alloc #[.slice A n c, .slice B m d, .slice C k e] 26).below
  have CF := fun (v : World) (hv : Below w.heap.size w v) => Ob.few_any (hW.below hv) (hS.below hv) (hY.below hv) hsz
  have hXw := hW.take (min n 30) (by omega)
  have hXs := hS.take (min m 30) (by omega)
  have hQz := Lib.hid (Ob.cuts_size ys (min k 12))
  generalize ws.take (min n 30) = xs at *
  generalize ss.take (min m 30) = xt at *
  generalize Ob.cuts ys (min k 12) = xy at *
  generalize min n 30 = n1 at *
  generalize min m 30 = m1 at *
  generalize min k 12 = k1 at *
  obtain ⟨t, ht⟩ : ∃ t, s.extract 0 (min s.size 600) = t := ⟨_, rfl⟩
  have ht6 : t.size ≤ 600 := by rw [← ht, ← L.bs_len, Du.bs_extract, List.length_take]; omega
  have CS := fun v => Du.short_any s hs v
  rw [ht] at CS
  replace CS := Lib.hid CS
  have CT := Lib.hid (fun v => Du.take_any t (by omega) v)
  have CU := Lib.hid (fun v => Du.rtake_any t (by omega) v)
  replace hB := Lib.hid hB
  replace CF := Lib.hid CF
  replace hXw := Lib.hid hXw
  replace hXs := Lib.hid hXs
  clear hW hS hY hsz ht
  go_enter Try.func3, Try.ntmps3
  go_wp2_with (fail)
  generalize w.alloc (.cells #[.slice A n c, .slice B m d, .slice C k e] 26) = w1 at *
  refine (Du.shown_any w1).mono ?_; rintro r w2 ⟨rfl, hE⟩
  replace hB := Lib.hid (hB.out.trans (hE.mono hB.out.size))
  replace hO := Lib.hid (hO.out.below hE)
  clear hE
  have o0 := hO.out.cell 0 (.slice A n c) rfl
  have o1 := hO.out.cell 1 (.slice B m d) rfl
  have o2 := hO.out.cell 2 (.slice C k e) rfl
  go_wp2_with (fail)
  clear o0 o1 o2
  refine (CF.out _ hB.out).mono ?_; rintro r w3 ⟨C1, e1, rfl, hQ, hE⟩
  have hQy := Lib.hid hQ.sy
  clear hQ
  replace hB := Lib.hid (hB.out.trans (hE.mono hB.out.size))
  replace hO := Lib.hid (hO.out.below hE)
  clear hE
  go_wp2_with (fail)
  refine (Du.put_any (hXw.out.below hB.out) (hXs.out.below hB.out) hQy.out hQz.out).mono ?_; rintro r w4 ⟨rfl, hE⟩
  obtain ⟨z, hz⟩ : ∃ z, Ob.may xs xt xy = z := ⟨_, rfl⟩
  obtain ⟨T, hT⟩ : ∃ T, strOfNums (Du.pB xs xt xy) = T := ⟨_, rfl⟩
  rw [hz, hT]
  replace hz := Lib.hid hz
  replace hT := Lib.hid hT
  clear hQy
  replace hB := Lib.hid (hB.out.trans (hE.mono hB.out.size))
  replace hO := Lib.hid (hO.out.below hE)
  clear hE
  have o0 := hO.out.cell 0 (.slice A n c) rfl
  have o1 := hO.out.cell 1 (.slice B m d) rfl
  have o2 := hO.out.cell 2 (.slice C k e) rfl
  go_wp2_with (fail)
  clear o0 o1 o2
  refine (CF.out _ hB.out).mono ?_; rintro r w5 ⟨C2, e2, rfl, hQ, hE⟩
  have hQy := Lib.hid hQ.sy
  clear hQ hO CF
  replace hB := Lib.hid (hB.out.trans (hE.mono hB.out.size))
  clear hE
  go_wp2_with (fail)
  refine (Du.rput_any (hXw.out.below hB.out) (hXs.out.below hB.out) hQy.out hQz.out).mono ?_; rintro r w6 ⟨rfl, hE⟩
  rw [hz.out, hT.out]
  clear hQy hQz hz hT hXw hXs
  replace hB := Lib.hid (hB.out.trans (hE.mono hB.out.size))
  clear hE
  go_wp2_with (fail)
  refine (CS.out w6).mono ?_; rintro r wq ⟨rfl, rfl⟩
  go_wp2_with (fail)
  refine (CT.out w6).mono ?_
  rintro r w7 ⟨A7, n7, c7, B7, m7, d7, C7, k7, f7, rfl, hW7, hS7, hY7, hE⟩
  have hA := ((Kept.refl w7).alloc #[.slice A7 n7 c7, .slice B7 m7 d7, .slice C7 k7 f7] 26).below
  have hO7 := Lib.hid (Has.new #[.slice A7 n7 c7, .slice B7 m7 d7, .slice C7 k7 f7] 26 w7)
  have hBx := hB.out.trans (hE.mono hB.out.size)
  replace hB := Lib.hid (hBx.trans (hA.mono hBx.size))
  replace hW7 := Lib.hid (hW7.below hA)
  replace hS7 := Lib.hid (hS7.below hA)
  replace hY7 := Lib.hid (hY7.below hA)
  clear hE hA hBx
  clear CT
  go_wp2_with (fail)
  generalize hwG : w7.alloc (.cells #[.slice A7 n7 c7, .slice B7 m7 d7, .slice C7 k7 f7] 26) = w8 at *
  clear hwG
  refine (CS.out w8).mono ?_; rintro r wq ⟨rfl, rfl⟩
  go_wp2_with (fail)
  refine (CU.out w8).mono ?_
  rintro r w9 ⟨A9, n9, c9, B9, m9, d9, C9, k9, f9, rfl, hW9, hS9, hY9, hE⟩
  have hA := ((Kept.refl w9).alloc #[.slice A9 n9 c9, .slice B9 m9 d9, .slice C9 k9 f9] 26).below
  have hO9 := Lib.hid (Has.new #[.slice A9 n9 c9, .slice B9 m9 d9, .slice C9 k9 f9] 26 w9)
  have hBx := hB.out.trans (hE.mono hB.out.size)
  replace hB := Lib.hid (hBx.trans (hA.mono hBx.size))
  replace hW9 := Lib.hid (hW9.below hA)
  replace hS9 := Lib.hid (hS9.below hA)
  replace hY9 := Lib.hid (hY9.below hA)
  replace hO7 := Lib.hid ((hO7.out.below hE).below hA)
  replace hW7 := Lib.hid ((hW7.out.below hE).below hA)
  replace hS7 := Lib.hid ((hS7.out.below hE).below hA)
  replace hY7 := Lib.hid ((hY7.out.below hE).below hA)
  clear hE hA hBx
  clear CU CS
  generalize Fi.tE (Du.take (L.bs t)) = tE at *
  generalize Fi.tW (Du.take (L.bs t)) = tW at *
  generalize Fi.tS (Du.take (L.bs t)) = tS at *
  generalize Fi.tY (Du.take (L.bs t)) = tY at *
  have p0 := hO7.out.cell 0 (.slice A7 n7 c7) rfl
  have p1 := hO7.out.cell 1 (.slice B7 m7 d7) rfl
  have p2 := hO7.out.cell 2 (.slice C7 k7 f7) rfl
  have q0 := hO9.out.cell 0 (.slice A9 n9 c9) rfl
  have q1 := hO9.out.cell 1 (.slice B9 m9 d9) rfl
  have q2 := hO9.out.cell 2 (.slice C9 k9 f9) rfl
  go_wp2_with (fail)
  clear p0 p1 p2 q0 q1 q2
  generalize hwG : w9.alloc (.cells #[.slice A9 n9 c9, .slice B9 m9 d9, .slice C9 k9 f9] 26) = w10 at *
  clear hwG
  refine (Ob.rsame_any hW7.out hS7.out hY7.out hW9.out hS9.out hY9.out).mono ?_; rintro r w11 ⟨rfl, hE⟩
  rw [Ob.same_self]
  replace hB := Lib.hid (hB.out.trans (hE.mono hB.out.size))
  clear hE
  go_wp2
  go_ret
  exact ⟨rfl, hB.out⟩
end Go.Proofs.Ytpfejjkoemnmiaa
