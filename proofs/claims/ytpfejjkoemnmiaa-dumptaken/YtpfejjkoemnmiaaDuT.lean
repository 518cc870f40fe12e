/-
  The walk of DumpTaken.
-/
import Derived.Test.YtpfejjkoemnmiaaM15
import Derived.Test.YtpfejjkoemnmiaaDu8
import Derived.Test.YtpfejjkoemnmiaaM11
namespace Go.Proofs.Ytpfejjkoemnmiaa
open Go.RowKit
set_option linter.unusedVariables false
set_option linter.unusedSimpArgs false
set_option maxRecDepth 100000
set_option maxHeartbeats 4000000 in
set_option maxRecDepth 100000 in
theorem walk_taken (w : World) (s : ByteArray) (hs : s.size ≤ 9223372036854775807) :
    Calls Try.prog 6 #[.string s] w fun e w' => e = .returned (.bool true) ∧ Below w.heap.size w w' := by
  obtain ⟨t, ht⟩ : ∃ t, s.extract 0 (min s.size 600) = t := ⟨_, rfl⟩
  have ht6 : t.size ≤ 600 := by rw [← ht, ← L.bs_len, Du.bs_extract, List.length_take]; omega
  have CS := fun v => Du.short_any s hs v
  rw [ht] at CS
  replace CS := Lib.hid CS
  have CT := Lib.hid (fun v => Du.take_any t (by omega) v)
  have hbr := Lib.hid (L.bs_rng t)
  clear ht
  go_enter Try.func6, Try.ntmps6
  go_wp2_with (fail)
  refine (Du.shown_any w).mono ?_; rintro r w2 ⟨rfl, hE⟩
  have hB := Lib.hid hE
  clear hE
  go_wp2_with (fail)
  refine (CS.out w2).mono ?_; rintro r wq ⟨rfl, rfl⟩
  clear CS
  go_wp2_with (fail)
  refine (CT.out w2).mono ?_
  rintro r w7 ⟨A7, n7, c7, B7, m7, d7, C7, k7, f7, rfl, hW7, hS7, hY7, hE⟩
  clear CT
  have hA := ((Kept.refl w7).alloc #[.slice A7 n7 c7, .slice B7 m7 d7, .slice C7 k7 f7] 26).below
  have hO7 := Lib.hid (Has.new #[.slice A7 n7 c7, .slice B7 m7 d7, .slice C7 k7 f7] 26 w7)
  have hBx := hB.out.trans (hE.mono hB.out.size)
  replace hB := Lib.hid (hBx.trans (hA.mono hBx.size))
  replace hW7 := Lib.hid (hW7.below hA)
  replace hS7 := Lib.hid (hS7.below hA)
  replace hY7 := Lib.hid (hY7.below hA)
  clear hE hA hBx
  have o0 := hO7.out.cell 0 (.slice A7 n7 c7) rfl
  have o1 := hO7.out.cell 1 (.slice B7 m7 d7) rfl
  have o2 := hO7.out.cell 2 (.slice C7 k7 f7) rfl
  cases hT : Du.take (L.bs t) with
  | error z =>
    rw [hT] at hW7 hS7 hY7
    rw [show Fi.tE (.error z) = z from rfl]
    have hz := Du.take_err hT
    have z0 : ¬ z = 0 := by omega
    have a0 : (z == 0) = false := by simpa using z0
    have b0 : (z != 0) = true := by simpa using z0
    clear hT
    go_wp2_with (first
      | (with_reducible refine want_do (o := ⟨some 23, _, _, _, _, _⟩) rfl (Fi.exec26 rfl) ?_)
      | fail)
    clear o0 o1 o2
    generalize hwG : w7.alloc (.cells #[.slice A7 n7 c7, .slice B7 m7 d7, .slice C7 k7 f7] 26) = w8 at *
    clear hwG
    refine (Ob.same_any hW7.out hS7.out hY7.out (Rw.empty _ _ _) (Rg.empty _ _) (Sy.empty _)).mono ?_; rintro r w9 ⟨rfl, hE⟩
    rw [show Ob.same (Fi.tW (.error z)) (Fi.tS (.error z)) (Fi.tY (.error z)) [] [] [] = true from rfl]
    replace hB := Lib.hid (hB.out.trans (hE.mono hB.out.size))
    clear hE
    rcases hz with rfl | rfl
    · go_wp2
      go_ret
      exact ⟨rfl, hB.out⟩
    · go_wp2
      go_ret
      exact ⟨rfl, hB.out⟩
  | ok p =>
    obtain ⟨W, S, Y⟩ := p
    rw [hT] at hW7 hS7 hY7
    obtain ⟨hm, hpt, hr, hsz⟩ := Du.taken hbr.out hT
    have hPB : strOfNums (Du.pB W S Y) = t := by rw [Du.put_yes hm, hpt, L.str_bs]
    have hcut := Lib.hid (fun q => Du.cut hbr.out hT q)
    rw [show Fi.tE (.ok (W, S, Y)) = 0 from rfl]
    have CP := fun (v : World) (h1 : Wo v A7 n7 c7 W) (h2 : In v B7 m7 d7 S) (h3 : Sy v C7 k7 f7 Y) => Du.put_any h1 h2 h3 hsz
    have CM := fun (v : World) (h1 : Wo v A7 n7 c7 W) (h2 : In v B7 m7 d7 S) (h3 : Sy v C7 k7 f7 Y) => Ob.may_any h1 h2 h3 hsz
    rw [hm, hPB] at CP
    rw [hm] at CM
    replace CP := Lib.hid CP
    replace CM := Lib.hid CM
    clear hT hm hpt hPB hsz hr hbr
    go_wp2_with (fail)
    clear o0 o1 o2
    generalize hwG : w7.alloc (.cells #[.slice A7 n7 c7, .slice B7 m7 d7, .slice C7 k7 f7] 26) = w8 at *
    clear hwG
    refine (CP.out _ hW7.out hS7.out hY7.out).mono ?_; rintro r w9 ⟨rfl, hE⟩
    replace hB := Lib.hid (hB.out.trans (hE.mono hB.out.size))
    replace hO7 := Lib.hid (hO7.out.below hE)
    replace hW7 := Lib.hid (hW7.out.below hE)
    replace hS7 := Lib.hid (hS7.out.below hE)
    replace hY7 := Lib.hid (hY7.out.below hE)
    clear hE
    clear CP
    by_cases c0 : 0 < t.size
    · have c1 : (0 : Int) < t.size := by omega
      have hc := hcut.out (by rw [L.bs_len]; exact c0)
      rw [L.bs_len] at hc
      have he : L.bs (t.extract 0 (t.size - 1)) = (L.bs t).take (t.size - 1) := by rw [Du.bs_extract, List.drop_zero, Nat.sub_zero]
      rw [← he] at hc
      have CT := Lib.hid (fun v => Du.take_any (t.extract 0 (t.size - 1)) (by rw [← L.bs_len, he, List.length_take]; omega) v)
      rw [hc] at CT
      clear hc he hcut
      go_wp2_with (fail)
      refine (CT.out _).mono ?_; rintro r w10 ⟨Aa, na, ca, Ba, ma, da, Ca, ka, fa, rfl, _, _, _, hE⟩
      rw [show Fi.tE (.error 22) = 22 from rfl]
      replace hB := Lib.hid (hB.out.trans (hE.mono hB.out.size))
      replace hO7 := Lib.hid (hO7.out.below hE)
      replace hW7 := Lib.hid (hW7.out.below hE)
      replace hS7 := Lib.hid (hS7.out.below hE)
      replace hY7 := Lib.hid (hY7.out.below hE)
      clear hE
      have o0 := hO7.out.cell 0 (.slice A7 n7 c7) rfl
      have o1 := hO7.out.cell 1 (.slice B7 m7 d7) rfl
      have o2 := hO7.out.cell 2 (.slice C7 k7 f7) rfl
      go_wp2_with (fail)
      clear o0 o1 o2
      refine (CM.out _ hW7.out hS7.out hY7.out).mono ?_; rintro r w11 ⟨rfl, hE⟩
      replace hB := Lib.hid (hB.out.trans (hE.mono hB.out.size))
      clear hE
      go_wp2
      go_ret
      exact ⟨rfl, hB.out⟩
    · have c1 : ¬ (0 : Int) < t.size := by omega
      have o0 := hO7.out.cell 0 (.slice A7 n7 c7) rfl
      have o1 := hO7.out.cell 1 (.slice B7 m7 d7) rfl
      have o2 := hO7.out.cell 2 (.slice C7 k7 f7) rfl
      go_wp2_with (fail)
      clear o0 o1 o2
      refine (CM.out _ hW7.out hS7.out hY7.out).mono ?_; rintro r w11 ⟨rfl, hE⟩
      replace hB := Lib.hid (hB.out.trans (hE.mono hB.out.size))
      clear hE
      go_wp2
      go_ret
      exact ⟨rfl, hB.out⟩
end Go.Proofs.Ytpfejjkoemnmiaa
