/-
  The contracts of addLine and Take of package dump.
-/
import Derived.Test.YtpfejjkoemnmiaaDu7
namespace Go.Proofs.Ytpfejjkoemnmiaa
open Go.RowKit
set_option linter.unusedVariables false
set_option linter.unusedSimpArgs false
set_option maxRecDepth 100000
theorem Du.Grown.after {base O : Nat} {w w1 w2 : World} {x : Option Du.St} (hb : Below base w w1) (h : Du.Grown base O w1 w2 x) : Du.Grown base O w w2 x := ⟨hb.trans h.1, h.2⟩
theorem Du.list_ne {s : ByteArray} {l : List UInt8} (h : ¬ s = ⟨l.toArray⟩) : (s.toList == l) = false := by
  apply beq_eq_false_iff_ne.2
  intro e
  rw [Lib.toList_data] at e
  exact h (by rw [← e, Lib.mk_data])
theorem Du.bs_eq {s t : ByteArray} (h : L.bs s = L.bs t) : s = t := L.bs_inj h
theorem Du.W0 {f : Nat} {args : Array Value} {base O : Nat} {o : Du.St} {b : Bool} {w : World} (h : Calls Try.prog f args w fun r w' => r = .returned (.bool (Du.addW o (Du.num (L.bs ⟨#[]⟩)) b).isSome) ∧ Du.Grown base O w w' (Du.addW o (Du.num (L.bs ⟨#[]⟩)) b)) : Calls Try.prog f args w fun r w' => r = .returned (.bool false) ∧ Du.Grown base O w w' none := h
theorem Du.N0 {f : Nat} {args : Array Value} {base O : Nat} {o : Du.St} {w : World} (h : Calls Try.prog f args w fun r w' => r = .returned (.bool (Du.one o (Du.nameK ++ 32 :: L.bs ⟨#[]⟩)).isSome) ∧ Du.Grown base O w w' (Du.one o (Du.nameK ++ 32 :: L.bs ⟨#[]⟩))) : Calls Try.prog f args w fun r w' => r = .returned (.bool false) ∧ Du.Grown base O w w' none := by
  have e : Du.one o (Du.nameK ++ 32 :: L.bs ⟨#[]⟩) = none := Du.name_miss (Du.nameK_byt (L.bs_rng _)) (by simp [L.bs])
  rw [e] at h
  exact h
set_option maxHeartbeats 4000000 in
set_option maxRecDepth 100000 in
theorem Du.addLine_any {base O : Nat} {A B C : Option Addr} {n c m d k e : Nat} {W S : List Int} {Y : List Ob.Y} {w : World} (h : Ob.Own base O A n c B m d C k e W S Y w) (hw1 : W.length ≤ 1000000000) (hw2 : S.length ≤ 1000000000) (hw3 : Y.length ≤ 1000000000) (s : ByteArray) (hs : s.size ≤ 1000000) :
    Calls Try.prog 29 #[.pointer (some ⟨O, 0, none⟩), .string s] w fun r w' => r = .returned (.bool (Du.one (W, S, Y) (L.bs s)).isSome) ∧ Du.Grown base O w w' (Du.one (W, S, Y) (L.bs s)) := by
  have hs0 := h.low
  have hC := Lib.hid (Du.cut_any s 32 w (by omega))
  have hby := Lib.hid (L.bs_rng s)
  have hWd := Lib.hid (fun (y : ByteArray) (hy : y.size ≤ 1000000000) (b : Bool) (v : World) (hv : Ob.Own base O A n c B m d C k e W S Y v) => Du.addWord_any hv hw1 hw2 y hy b)
  have hNm := Lib.hid (fun (y : ByteArray) (hy : y.size ≤ 1000000) (v : World) (hv : Ob.Own base O A n c B m d C k e W S Y v) => Du.addName_any hv hw3 y hy)
  obtain ⟨X, hXe⟩ : ∃ X, Du.one (W, S, Y) (L.bs s) = X := ⟨_, rfl⟩
  rw [hXe]
  replace hXe := Lib.hid hXe
  replace h := Lib.hid h
  clear hw1 hw2 hw3
  go_enter Try.func29, Try.ntmps29
  go_wp2_with (fail)
  refine hC.out.mono ?_; rintro r w2 ⟨hR, hE⟩
  have hB := Lib.hid (hE.mono hs0)
  replace h := Lib.hid (h.out.below hE)
  clear hE hC hs0
  rcases hR with ⟨hm, rfl⟩ | ⟨t, y, hsp, hm, rfl⟩
  · replace hm : (32 : Int) ∉ L.bs s := hm
    replace hXe := Lib.hid (hXe.out.symm.trans (Du.one_miss hby.out hm))
    clear hby hm
    by_cases c1 : s = ⟨#[97, 100, 100, 114]⟩
    · subst c1
      have X1 := hXe.out
      subst X1
      clear hXe
      go_wp2_with (fail)
      refine (Du.W0 (hWd.out (⟨#[]⟩ : ByteArray) (by decide) true _ h.out)).mono ?_; rintro r w3 ⟨rfl, hG⟩
      have hG1 := Lib.hid (Du.Grown.after hB.out hG)
      clear hG hB h hWd hNm
      go_wp2
      go_ret
      exact ⟨rfl, hG1.out⟩
    have z1 : (s.toList == [97, 100, 100, 114]) = false := Du.list_ne c1
    by_cases c2 : s = ⟨#[119, 111, 114, 100]⟩
    · subst c2
      have X1 := hXe.out
      subst X1
      clear hXe
      go_wp2_with (fail)
      refine (Du.W0 (hWd.out (⟨#[]⟩ : ByteArray) (by decide) false _ h.out)).mono ?_; rintro r w3 ⟨rfl, hG⟩
      have hG1 := Lib.hid (Du.Grown.after hB.out hG)
      clear hG hB h hWd hNm
      go_wp2
      go_ret
      exact ⟨rfl, hG1.out⟩
    have z2 : (s.toList == [119, 111, 114, 100]) = false := Du.list_ne c2
    by_cases c3 : s = ⟨#[110, 97, 109, 101]⟩
    · subst c3
      have X1 := hXe.out
      subst X1
      clear hXe
      go_wp2_with (fail)
      refine (Du.N0 (hNm.out (⟨#[]⟩ : ByteArray) (by decide) _ h.out)).mono ?_; rintro r w3 ⟨rfl, hG⟩
      have hG1 := Lib.hid (Du.Grown.after hB.out hG)
      clear hG hB h hWd hNm
      go_wp2
      go_ret
      exact ⟨rfl, hG1.out⟩
    have z3 : (s.toList == [110, 97, 109, 101]) = false := Du.list_ne c3
    have X1 := hXe.out
    subst X1
    clear hXe h hWd hNm
    go_wp2
    go_ret
    exact ⟨rfl, Du.Grown.no hB.out⟩
  · replace hsp : L.bs s = L.bs t ++ 32 :: L.bs y := hsp
    replace hm : (32 : Int) ∉ L.bs t := hm
    have hsz := congrArg List.length hsp
    rw [List.length_append, List.length_cons, L.bs_len, L.bs_len, L.bs_len] at hsz
    have hby2 := Lib.hid hby.out
    rw [hsp] at hby2 hXe
    have hE := Lib.hid (fun q1 q2 q3 => hXe.out.symm.trans (Du.one_else (o := (W, S, Y)) hby2.out hm q1 q2 q3))
    clear hby hsp hm
    by_cases c1 : t = ⟨#[97, 100, 100, 114]⟩
    · subst c1
      have X1 := hXe.out.symm.trans (Du.one_addW (b := true) (L.bs_rng y))
      subst X1
      clear hXe hE hby2
      go_wp2_with (fail)
      refine (hWd.out y (by omega) true _ h.out).mono ?_; rintro r w3 ⟨rfl, hG⟩
      have hG1 := Lib.hid (Du.Grown.after hB.out hG)
      clear hG hB h hWd hNm
      go_wp2
      go_ret
      exact ⟨rfl, hG1.out⟩
    have z1 : (t.toList == [97, 100, 100, 114]) = false := Du.list_ne c1
    by_cases c2 : t = ⟨#[119, 111, 114, 100]⟩
    · subst c2
      have X1 := hXe.out.symm.trans (Du.one_addW (b := false) (L.bs_rng y))
      subst X1
      clear hXe hE hby2
      go_wp2_with (fail)
      refine (hWd.out y (by omega) false _ h.out).mono ?_; rintro r w3 ⟨rfl, hG⟩
      have hG1 := Lib.hid (Du.Grown.after hB.out hG)
      clear hG hB h hWd hNm
      go_wp2
      go_ret
      exact ⟨rfl, hG1.out⟩
    have z2 : (t.toList == [119, 111, 114, 100]) = false := Du.list_ne c2
    by_cases c3 : t = ⟨#[110, 97, 109, 101]⟩
    · subst c3
      have X1 := hXe.out.symm
      subst X1
      clear hXe hE hby2
      go_wp2_with (fail)
      refine (hNm.out y (by omega) _ h.out).mono ?_; rintro r w3 ⟨rfl, hG⟩
      have hG1 := Lib.hid (Du.Grown.after hB.out hG)
      clear hG hB h hWd hNm
      go_wp2
      go_ret
      exact ⟨rfl, hG1.out⟩
    have z3 : (t.toList == [110, 97, 109, 101]) = false := Du.list_ne c3
    have X1 := hE.out (fun q => c1 (Du.bs_eq q)) (fun q => c2 (Du.bs_eq q)) (fun q => c3 (Du.bs_eq q))
    subst X1
    clear hXe hE hby2 h hWd hNm
    go_wp2
    go_ret
    exact ⟨rfl, Du.Grown.no hB.out⟩
def Du.slen : Value → Nat
  | .string s => s.size
  | _ => 0
theorem Du.take_none {bs : List Int} (h : Du.go ([], [], []) [] bs = none) : Du.take bs = .error 22 := by unfold Du.take; rw [h]
theorem Du.take_bad {bs W S : List Int} {Y : List Ob.Y} (h : Du.go ([], [], []) [] bs = some (W, S, Y)) (hm : ¬ Ob.may W S Y = 0) : Du.take bs = .error 6 := by unfold Du.take; rw [h]; simp only []; rw [if_neg hm]
theorem Du.take_good {bs W S : List Int} {Y : List Ob.Y} (h : Du.go ([], [], []) [] bs = some (W, S, Y)) (hm : Ob.may W S Y = 0) : Du.take bs = .ok (W, S, Y) := by unfold Du.take; rw [h]; simp only []; rw [if_pos hm]
theorem Du.one_grow {o : Du.St} {W S : List Int} {Y : List Ob.Y} {l : List Int} (hb : L.Byt l) (h : Du.one o l = some (W, S, Y)) : W.length ≤ o.1.length + 1 ∧ S.length ≤ o.2.1.length + 1 ∧ Y.length ≤ o.2.2.length + 1 := by
  unfold Du.one at h
  split at h
  · cases h
  split at h
  · cases h
  split at h
  · split at h
    · cases h; simp
    · cases h
  · split at h
    · cases h
      refine ⟨by simp, ?_, by simp⟩
      split
      · simp
      · omega
    · cases h
set_option maxHeartbeats 4000000 in
set_option maxRecDepth 100000 in
theorem Du.take_any (s : ByteArray) (hs : s.size ≤ 1000000) (w : World) :
    Calls Try.prog 12 #[.string s] w fun e w' => Fi.TakeR w w' e (Du.take (L.bs s)) := by
  obtain ⟨X, hXe⟩ : ∃ X, Du.take (L.bs s) = X := ⟨_, rfl⟩
  rw [hXe]
  replace hXe := Lib.hid hXe
  have hA1 := ((Kept.refl w).alloc #[.slice none 0 0, .slice none 0 0, .slice none 0 0] 26).below
  have hG1 := Has.new #[.slice none 0 0, .slice none 0 0, .slice none 0 0] 26 w
  have hOw0 := Lib.hid (show Ob.Own (w.alloc (.cells #[.slice none 0 0, .slice none 0 0, .slice none 0 0] 26)).heap.size (w.alloc (.cells #[.slice none 0 0, .slice none 0 0, .slice none 0 0] 26)).heap.size none 0 0 none 0 0 none 0 0 [] [] [] ((w.alloc (.cells #[.slice none 0 0, .slice none 0 0, .slice none 0 0] 26)).alloc (.cells #[.slice none 0 0, .slice none 0 0, .slice none 0 0] 26)) from ⟨Has.new _ _ _, On.none _ _ _ _, On.none _ _ _ _, Os.none _ _ _, Nat.le_refl _⟩)
  have hA2 := ((Kept.refl (w.alloc (.cells #[.slice none 0 0, .slice none 0 0, .slice none 0 0] 26))).alloc #[.slice none 0 0, .slice none 0 0, .slice none 0 0] 26).below
  have hz1 : (w.alloc (.cells #[.slice none 0 0, .slice none 0 0, .slice none 0 0] 26)).heap.size = w.heap.size + 1 := by simp
  have hB := Lib.hid (hA1.trans (hA2.mono hA1.size))
  have hG := Lib.hid (hG1.below hA2)
  clear hG1 hA1
  replace hA2 := Lib.hid hA2
  go_enter Try.func12, Try.ntmps12
  go_wp2_with (fail)
  have hlow : w.heap.size ≤ w.heap.size + 1 := Nat.le_succ _
  have hE0 := Lib.hid (show Below (w.heap.size + 1) ((w.alloc (.cells #[.slice none 0 0, .slice none 0 0, .slice none 0 0] 26)).alloc (.cells #[.slice none 0 0, .slice none 0 0, .slice none 0 0] 26)) ((w.alloc (.cells #[.slice none 0 0, .slice none 0 0, .slice none 0 0] 26)).alloc (.cells #[.slice none 0 0, .slice none 0 0, .slice none 0 0] 26)) from Below.refl _ _)
  rw [hz1] at hOw0
  clear hA2 hz1
  generalize (w.alloc (.cells #[.slice none 0 0, .slice none 0 0, .slice none 0 0] 26)).alloc (.cells #[.slice none 0 0, .slice none 0 0, .slice none 0 0] 26) = w2 at *
  have hGlt := hG.out.lt
  have hOd := Lib.hid (show w.heap.size < w.heap.size + 1 from Nat.lt_succ_self _)
  generalize w.heap.size + 1 = O at *
  have hGO : ∀ v, Below O w2 v → Has w.heap.size #[.slice none 0 0, .slice none 0 0, .slice none 0 0] 26 v := fun v hv => (hv.block w.heap.size (by have := hOd.out; omega)).trans hG.out
  have hBO : ∀ v, Below O w2 v → Below w.heap.size w v := fun v hv => hB.out.trans (hv.mono hlow)
  replace hGO := Lib.hid hGO
  replace hBO := Lib.hid hBO
  clear hG hB hOd hGlt
  go_loopw [0] (fun x wr => ∃ (z : ByteArray) (W S : List Int) (Y : List Ob.Y) (A : Option Addr) (n c : Nat) (B : Option Addr) (m d : Nat) (C : Option Addr) (k e : Nat), x = .string z ∧ Ob.Own O O A n c B m d C k e W S Y wr ∧ Below O w2 wr ∧ Du.go ([], [], []) [] (L.bs s) = Du.go (W, S, Y) [] (L.bs z) ∧ W.length + z.size ≤ s.size ∧ S.length + z.size ≤ s.size ∧ Y.length + z.size ≤ s.size ∧ Du.Inv (W, S, Y)) (fun x _ => Du.slen x)
  case atStart => exact ⟨s, [], [], [], none, 0, 0, none, 0, 0, none, 0, 0, rfl, hOw0.out, hE0.out, rfl, by simp, by simp, by simp, Du.inv0⟩
  case round =>
    clear hOw0 hE0
    obtain ⟨z, W, S, Y, A, n, c, B, m, d, C, k, e, rfl, hO, hE, hgo, l1, l2, l3, hI⟩ := hrel
    have hlo := hO.low
    by_cases d1 : 0 < z.size
    · have d2 : (0 : Int) < z.size := by omega
      have hC := Lib.hid (Du.cut_any z 10 wr (by omega))
      have hAL := Lib.hid (fun (t : ByteArray) (ht : t.size ≤ 1000000) (v : World) (hv : Ob.Own O O A n c B m d C k e W S Y v) => Du.addLine_any hv (by omega) (by omega) (by omega) t ht)
      have hzb := Lib.hid (L.bs_rng z)
      replace hO := Lib.hid hO
      replace hE := Lib.hid hE
      replace hI := Lib.hid hI
      go_wp2_with (fail)
      refine hC.out.mono ?_; rintro r w3 ⟨hR, hE3⟩
      replace hE := Lib.hid (hE.out.trans (hE3.mono hlo))
      replace hO := Lib.hid (hO.out.below hE3)
      clear hE3 hC
      rcases hR with ⟨hm, rfl⟩ | ⟨t, y, hsp, hm, rfl⟩
      · replace hm : (10 : Int) ∉ L.bs z := hm
        rw [Du.go_miss _ _ _ hm (fun q => by have := congrArg List.length q; rw [List.nil_append, L.bs_len, List.length_nil] at this; omega)] at hgo
        have X1 := hXe.out.symm.trans (Du.take_none hgo)
        subst X1
        have hG := Lib.hid (hGO.out _ hE.out)
        have hB := Lib.hid (hBO.out _ hE.out)
        clear hXe hGO hBO hO hE hAL hzb hI hgo
        go_wp2_with (first
          | (with_reducible refine want_do (o := ⟨some 24, _, _, _, _, _⟩) rfl (Fi.exec26 rfl) ?_)
          | (with_reducible refine store_has (o := ⟨none, _, _, _, _, _⟩) rfl 26 (.tmp 2) (.tmp 24) rfl w.heap.size #[.slice none 0 0, .slice none 0 0, .slice none 0 0] rfl rfl hG.out (Ob.info26 _ _ _) rfl (Ob.oneS _ _ _ _ _ _ _ _ _) ?_)
          | fail)
        refine bodyPost_ret (results_has2 rfl w.heap.size rfl (hG.out.row _) Try.underlying26 rfl (Ob.info26 _ _ _)) rfl ?_
        exact Fi.takeR_err rfl (Bel.setRow hB.out (Nat.le_refl _) _)
      · replace hsp : L.bs z = L.bs t ++ 10 :: L.bs y := hsp
        replace hm : (10 : Int) ∉ L.bs t := hm
        have hsz := congrArg List.length hsp
        rw [List.length_append, List.length_cons, L.bs_len, L.bs_len, L.bs_len] at hsz
        rw [hsp, Du.go_hit _ hm] at hgo
        clear hsp hm hzb
        go_wp2_with (fail)
        refine (hAL.out t (by omega) _ hO.out).mono ?_; rintro r w4 ⟨rfl, hGr⟩
        replace hE := Lib.hid (hE.out.trans hGr.1)
        clear hAL hO
        cases hone : Du.one (W, S, Y) (L.bs t) with
        | none =>
          rw [hone] at hgo
          have X1 := hXe.out.symm.trans (Du.take_none hgo)
          subst X1
          have hG := Lib.hid (hGO.out _ hE.out)
          have hB := Lib.hid (hBO.out _ hE.out)
          rw [show (none : Option Du.St).isSome = false from rfl]
          clear hXe hGO hBO hE hGr hgo hI hone
          go_wp2_with (first
            | (with_reducible refine want_do (o := ⟨some 24, _, _, _, _, _⟩) rfl (Fi.exec26 rfl) ?_)
            | (with_reducible refine store_has (o := ⟨none, _, _, _, _, _⟩) rfl 26 (.tmp 2) (.tmp 24) rfl w.heap.size #[.slice none 0 0, .slice none 0 0, .slice none 0 0] rfl rfl hG.out (Ob.info26 _ _ _) rfl (Ob.oneS _ _ _ _ _ _ _ _ _) ?_)
            | fail)
          refine bodyPost_ret (results_has2 rfl w.heap.size rfl (hG.out.row _) Try.underlying26 rfl (Ob.info26 _ _ _)) rfl ?_
          exact Fi.takeR_err rfl (Bel.setRow hB.out (Nat.le_refl _) _)
        | some o' =>
          obtain ⟨W', S', Y'⟩ := o'
          rw [hone] at hgo
          obtain ⟨A', n', c', B', m', d', C', k', e', hO'⟩ := hGr.2 W' S' Y' hone
          have hI' := (Du.one_some (L.bs_rng t) hI.out hone).2.1
          obtain ⟨p1, p2, p3⟩ := Du.one_grow (L.bs_rng t) hone
          rw [show (some (W', S', Y') : Option Du.St).isSome = true from rfl]
          replace hgo := Lib.hid hgo
          replace hO' := Lib.hid hO'
          clear hGr hone hI
          go_wp2_with (fail)
          go_roundw
          case rel => exact ⟨y, W', S', Y', A', n', c', B', m', d', C', k', e', rfl, hO'.out, hE.out, hgo.out, by have q : W'.length ≤ W.length + 1 := p1; omega, by have q : S'.length ≤ S.length + 1 := p2; omega, by have q : Y'.length ≤ Y.length + 1 := p3; omega, hI'⟩
          case measure => show y.size < z.size; omega
    · have d2 : ¬ (0 : Int) < z.size := by omega
      have hz0 : z = ⟨#[]⟩ := Du.str0 (by omega)
      subst hz0
      rw [show L.bs ⟨#[]⟩ = [] from rfl, Du.go_end] at hgo
      have T3 := Lib.hid (fun q => hXe.out.symm.trans (Du.take_bad hgo q))
      have T4 := Lib.hid (fun q => hXe.out.symm.trans (Du.take_good hgo q))
      have hsz : ∀ y ∈ Y, y.1.size ≤ 1000000 := fun y hy => by have := (hI.hY y hy).2; omega
      have hwr := Lib.hid hI.hW
      have CM := Lib.hid (fun (v : World) (hv : Ob.Own O O A n c B m d C k e W S Y v) => Ob.may_any (hv.wo hwr.out) hv.in hv.sy hsz)
      replace hO := Lib.hid hO
      replace hE := Lib.hid hE
      clear hgo hI hXe
      go_wp2_with (first
        | (with_reducible refine load_has (o := ⟨some 26, _, _, _, _, _⟩) rfl 26 (.tmp 4) rfl O rfl hO.out.hG Try.underlying26 rfl (Ob.info26 _ _ _) ?_)
        | fail)
      refine (CM.out _ hO.out).mono ?_; rintro r w4 ⟨rfl, hE4⟩
      replace hE := Lib.hid (hE.out.trans (hE4.mono hlo))
      replace hO := Lib.hid (hO.out.below hE4)
      have hG := Lib.hid (hGO.out _ hE.out)
      have hB := Lib.hid (hBO.out _ hE.out)
      clear hE4 CM hGO hBO hE
      by_cases cm : Ob.may W S Y = 0
      · have X1 := T4.out cm
        subst X1
        rw [cm]
        clear T3 T4
        go_wp2_with (first
          | (with_reducible refine load_has (o := ⟨some 30, _, _, _, _, _⟩) rfl 26 (.tmp 4) rfl O rfl hO.out.hG Try.underlying26 rfl (Ob.info26 _ _ _) ?_)
          | (with_reducible refine store_has (o := ⟨none, _, _, _, _, _⟩) rfl 26 (.tmp 2) (.tmp 30) rfl w.heap.size #[.slice A n c, .slice B m d, .slice C k e] rfl rfl hG.out (Ob.info26 _ _ _) rfl (Ob.oneS _ _ _ _ _ _ _ _ _) ?_)
          | fail)
        refine bodyPost_ret (results_has2 rfl w.heap.size rfl (hG.out.row _) Try.underlying26 rfl (Ob.info26 _ _ _)) rfl ?_
        refine ⟨A, n, c, B, m, d, C, k, e, rfl, (hO.out.hP.otherRow hG.out (by decide) _).rg.rw hwr.out, (hO.out.hQ.otherRow hG.out (by decide) _).rg, (hO.out.hY.otherRow hG.out (by decide) _).sy, Bel.setRow hB.out (Nat.le_refl _) _⟩
      · have X1 := T3.out cm
        subst X1
        generalize Ob.may W S Y = z at *
        have z1 : (z == 0) = false := by simpa using cm
        have z2 : (z != 0) = true := by simpa using cm
        clear T3 T4 hO
        go_wp2_with (first
          | (with_reducible refine want_do (o := ⟨some 29, _, _, _, _, _⟩) rfl (Fi.exec26 rfl) ?_)
          | (with_reducible refine store_has (o := ⟨none, _, _, _, _, _⟩) rfl 26 (.tmp 2) (.tmp 29) rfl w.heap.size #[.slice none 0 0, .slice none 0 0, .slice none 0 0] rfl rfl hG.out (Ob.info26 _ _ _) rfl (Ob.oneS _ _ _ _ _ _ _ _ _) ?_)
          | fail)
        refine bodyPost_ret (results_has2 rfl w.heap.size rfl (hG.out.row _) Try.underlying26 rfl (Ob.info26 _ _ _)) rfl ?_
        exact Fi.takeR_err rfl (Bel.setRow hB.out (Nat.le_refl _) _)
end Go.Proofs.Ytpfejjkoemnmiaa
