/-
  Joined: Fi4, Fi6.
-/
import Derived.Test.YtpfejjkoemnmiaaFi3
import Derived.Test.YtpfejjkoemnmiaaFiQ
import Derived.Test.YtpfejjkoemnmiaaM09
import Derived.Test.YtpfejjkoemnmiaaM06
import Derived.Test.YtpfejjkoemnmiaaM08
/-
  The contract of Take of package file.
-/
namespace Go.Proofs.Ytpfejjkoemnmiaa
open Go.RowKit
set_option linter.unusedVariables false
set_option linter.unusedSimpArgs false
set_option maxRecDepth 100000
set_option maxRecDepth 100000
theorem Fi.built26 : Try.prog.built 26 [] = some #[.slice none 0 0, .slice none 0 0, .slice none 0 0] := by kernel_rfl
theorem Fi.exec26 {o : Oper} {a : Act} {w : World} (ho : o.op = .build 26 #[]) : (execOp a.eval o).run Try.prog w = .ok (.value (.agg #[.slice none 0 0, .slice none 0 0, .slice none 0 0])) w := by
  refine exec_build 26 #[] ho _ ?_
  rw [Array.map_empty]
  exact Fi.built26
/-- what Take hands back -/
def Fi.TakeR (w w' : World) (e : Ending) (t : Except Int (List Int × List Int × List Ob.Y)) : Prop :=
  ∃ A n c B m d C k f, e = .returned (.tuple #[.agg #[.slice A n c, .slice B m d, .slice C k f], .int .i64 (Fi.tE t)]) ∧ Wo w' A n c (Fi.tW t) ∧ In w' B m d (Fi.tS t) ∧ Sy w' C k f (Fi.tY t) ∧ Below w.heap.size w w'
theorem Fi.takeR_err {w w' : World} {e : Ending} {z : Int} (he : e = .returned (.tuple #[.agg #[.slice none 0 0, .slice none 0 0, .slice none 0 0], .int .i64 z])) (hb : Below w.heap.size w w') : Fi.TakeR w w' e (.error z) :=
  ⟨none, 0, 0, none, 0, 0, none, 0, 0, he, Rw.empty _ _ _, Rg.empty _ _, Sy.empty _, hb⟩
theorem Fi.take_1 {bs : List Int} {z : Int} (h : Fi.parts bs = .error z) : Fi.take bs = .error z := by unfold Fi.take; rw [h]
theorem Fi.take_2 {bs P : List Int} {h : Int} {ys : List Ob.Y} (hp : Fi.parts bs = .ok (P, h, ys)) (hR : Ch.R P h = none) : Fi.take bs = .error 10 := by
  unfold Fi.take; rw [hp]; simp only [hR]
theorem Fi.take_3 {bs P : List Int} {h : Int} {ys : List Ob.Y} {d : List Nat} (hp : Fi.parts bs = .ok (P, h, ys)) (hR : Ch.R P h = some d) (hm : ¬ Ob.may (Ch.uW P (some d)) (Ch.uS (some d)) ys = 0) : Fi.take bs = .error 6 := by
  unfold Fi.take; rw [hp]; simp only [hR]; rw [if_neg hm]
theorem Fi.take_4 {bs P : List Int} {h : Int} {ys : List Ob.Y} {d : List Nat} (hp : Fi.parts bs = .ok (P, h, ys)) (hR : Ch.R P h = some d) (hm : Ob.may (Ch.uW P (some d)) (Ch.uS (some d)) ys = 0) : Fi.take bs = .ok (Ch.uW P (some d), Ch.uS (some d), ys) := by
  unfold Fi.take; rw [hp]; simp only [hR]; rw [if_pos hm]
set_option maxHeartbeats 4000000 in
set_option maxRecDepth 100000 in
theorem Fi.take_any {w : World} {A : Option Addr} {m c : Nat} {bs : List Int} (h : By w A m c bs) (hm : m ≤ 1000000) :
    Calls Try.prog 22 #[.slice A m c] w fun e w' => Fi.TakeR w w' e (Fi.take bs) := by
  have hbr := Lib.hid h.rng
  have hG := Lib.hid (Has.new #[.slice none 0 0, .slice none 0 0, .slice none 0 0] 26 w)
  have hB := (((Kept.refl w).alloc #[.slice none 0 0, .slice none 0 0, .slice none 0 0] 26).below)
  have hX := Lib.hid (h.below hB)
  have hS : w.heap.size ≤ (w.alloc (.cells #[.slice none 0 0, .slice none 0 0, .slice none 0 0] 26)).heap.size := hB.size
  replace hB := Lib.hid hB
  obtain ⟨X, hXe⟩ : ∃ X, Fi.take bs = X := ⟨_, rfl⟩
  rw [hXe]
  replace hXe := Lib.hid hXe
  clear h
  go_enter Try.func22, Try.ntmps22
  go_wp2_with (fail)
  generalize w.alloc (.cells #[.slice none 0 0, .slice none 0 0, .slice none 0 0] 26) = w1 at *
  refine (Fi.takeParts_any hX.out hm).mono ?_; intro e w2 hq
  cases hp : Fi.parts bs with
  | error z =>
    rw [hp] at hq
    obtain ⟨rfl, hE⟩ := hq
    have X1 := hXe.out.symm.trans (Fi.take_1 hp)
    have hz : z ≠ 0 := by
      have := Fi.parts_err hp
      unfold Fi.Err at this
      omega
    have z1 : (z == 0) = false := by simpa using hz
    have z2 : (z != 0) = true := by simpa using hz
    subst X1
    have hA := ((Kept.refl w2).alloc #[.slice none 0 0, .int .i64 0, .slice none 0 0] 79).below
    have hB2 := hB.out.trans (hE.mono hS)
    replace hB := Lib.hid (hB2.trans (hA.mono hB2.size))
    replace hG := Lib.hid ((hG.out.below hE).below hA)
    clear hE hX hA hB2 hp hXe
    go_wp2_with (first
      | (with_reducible refine want_do (o := ⟨some 16, _, _, _, _, _⟩) rfl (Fi.exec26 rfl) ?_)
      | (with_reducible refine store_has (o := ⟨none, _, _, _, _, _⟩) rfl 26 (.tmp 2) (.tmp 16) rfl w.heap.size #[.slice none 0 0, .slice none 0 0, .slice none 0 0] rfl rfl hG.out (Ob.info26 _ _ _) rfl (Ob.oneS _ _ _ _ _ _ _ _ _) ?_)
      | fail)
    refine bodyPost_ret (results_has2 rfl w.heap.size rfl (hG.out.row _) Try.underlying26 rfl (Ob.info26 _ _ _)) rfl ?_
    exact Fi.takeR_err rfl (Bel.setRow hB.out (Nat.le_refl _) _)
  | ok p =>
    obtain ⟨P, hd, ys⟩ := p
    rw [hp] at hq
    obtain ⟨A1, n, c1, C, f, rfl, hW, hO, hE⟩ := hq
    obtain ⟨p1, p2, p3, p4, p5⟩ := Fi.parts_taken hbr.out hp
    have hnl := hW.len
    have hsz : ∀ y ∈ ys, y.1.size ≤ 1000000 := fun y hy => by have := (p4 y hy).2; omega
    replace hsz := Lib.hid hsz
    replace p5 := Lib.hid p5
    replace hp := Lib.hid hp
    clear p3 p4
    obtain ⟨ny, hny⟩ : ∃ ny, ys.length = ny := ⟨_, rfl⟩
    rw [hny] at hO ⊢
    have hA := ((Kept.refl w2).alloc #[.slice A1 n c1, .int .i64 hd, .slice C ny f] 79).below
    have hPb := Lib.hid (Has.new #[.slice A1 n c1, .int .i64 hd, .slice C ny f] 79 w2)
    have hB2 := hB.out.trans (hE.mono hS)
    have hS0 := hS
    replace hS := Nat.le_trans hS hE.size
    replace hB := Lib.hid (hB2.trans (hA.mono hB2.size))
    replace hG := Lib.hid ((hG.out.below hE).below hA)
    replace hW := Lib.hid (hW.below hA)
    replace hO := Lib.hid ((hO.below hA).lower hS0)
    clear hE hX
    go_wp2_with (fail)
    clear hA hB2 hS0
    generalize w2.alloc (.cells #[.slice A1 n c1, .int .i64 hd, .slice C ny f] 79) = w3 at *
    generalize w2.heap.size = Bp at *
    have hS3 := hB.out.size
    refine (Ch.unpack_any hW.out (by omega) hd).mono ?_; rintro e w4 ⟨A2, n2, c2, A3, n3, c3, rfl, hU, hV, hE⟩
    replace hB := Lib.hid (hB.out.trans (hE.mono hS3))
    replace hG := Lib.hid (hG.out.below hE)
    replace hPb := hPb.out.below hE
    replace hO := Lib.hid (hO.out.below hE)
    replace hU := hU.lower hS3
    replace hV := hV.lower hS3
    clear hE hW
    cases hR : Ch.R P hd with
    | none =>
      have X1 := hXe.out.symm.trans (Fi.take_2 hp.out hR)
      subst X1
      rw [show Ch.uE none = 10 from rfl]
      clear hPb hU hV hO hXe hp
      go_wp2_with (first
        | (with_reducible refine want_do (o := ⟨some 29, _, _, _, _, _⟩) rfl (Fi.exec26 rfl) ?_)
        | (with_reducible refine store_has (o := ⟨none, _, _, _, _, _⟩) rfl 26 (.tmp 2) (.tmp 29) rfl w.heap.size #[.slice none 0 0, .slice none 0 0, .slice none 0 0] rfl rfl hG.out (Ob.info26 _ _ _) rfl (Ob.oneS _ _ _ _ _ _ _ _ _) ?_)
        | fail)
      refine bodyPost_ret (results_has2 rfl w.heap.size rfl (hG.out.row _) Try.underlying26 rfl (Ob.info26 _ _ _)) rfl ?_
      exact Fi.takeR_err rfl (Bel.setRow hB.out (Nat.le_refl _) _)
    | some dd =>
      have T3 := Lib.hid (fun q => hXe.out.symm.trans (Fi.take_3 hp.out hR q))
      have T4 := Lib.hid (fun q => hXe.out.symm.trans (Fi.take_4 hp.out hR q))
      rw [hR] at hU hV
      rw [show Ch.uE (some dd) = 0 from rfl]
      have hUr := Lib.hid (Ch.uW_rng p5.out (some dd))
      generalize Ch.uW P (some dd) = W' at *
      generalize Ch.uS (some dd) = S' at *
      have o2 := hPb.cell 2 (.slice C ny f) rfl
      have hA := ((Kept.refl w4).alloc #[.slice A2 n2 c2, .slice A3 n3 c3, .slice C ny f] 26).below
      have hN := Lib.hid (Has.new #[.slice A2 n2 c2, .slice A3 n3 c3, .slice C ny f] 26 w4)
      have hS4 := hB.out.size
      replace hB := Lib.hid (hB.out.trans (hA.mono hS4))
      replace hG := Lib.hid (hG.out.below hA)
      replace hO := Lib.hid (hO.out.below hA)
      replace hU := Lib.hid (hU.below hA)
      replace hV := Lib.hid (hV.below hA)
      clear hA hXe hp hPb hR
      go_wp2_with (first
        | (with_reducible refine load_has (o := ⟨some 36, _, _, _, _, _⟩) rfl 26 (.tmp 8) rfl w4.heap.size rfl hN.out Try.underlying26 rfl (Ob.info26 _ _ _) ?_)
        | fail)
      clear o2
      generalize w4.alloc (.cells #[.slice A2 n2 c2, .slice A3 n3 c3, .slice C ny f] 26) = w5 at *
      generalize w4.heap.size = Bo at *
      have hS5 := hB.out.size
      refine (Ob.may_any (hU.out.rg.rw hUr.out) hV.out.rg hO.out.sy hsz.out).mono ?_; rintro e w6 ⟨rfl, hE⟩
      replace hB := Lib.hid (hB.out.trans (hE.mono hS5))
      replace hG := Lib.hid (hG.out.below hE)
      replace hN := Lib.hid (hN.out.below hE)
      replace hO := Lib.hid (hO.out.below hE)
      replace hU := Lib.hid (hU.out.below hE)
      replace hV := Lib.hid (hV.out.below hE)
      clear hE
      by_cases cm : Ob.may W' S' ys = 0
      · have X1 := T4.out cm
        subst X1
        rw [cm]
        clear T3 T4
        go_wp2_with (first
          | (with_reducible refine load_has (o := ⟨some 40, _, _, _, _, _⟩) rfl 26 (.tmp 8) rfl Bo rfl hN.out Try.underlying26 rfl (Ob.info26 _ _ _) ?_)
          | (with_reducible refine store_has (o := ⟨none, _, _, _, _, _⟩) rfl 26 (.tmp 2) (.tmp 40) rfl w.heap.size #[.slice A2 n2 c2, .slice A3 n3 c3, .slice C ny f] rfl rfl hG.out (Ob.info26 _ _ _) rfl (Ob.oneS _ _ _ _ _ _ _ _ _) ?_)
          | fail)
        refine bodyPost_ret (results_has2 rfl w.heap.size rfl (hG.out.row _) Try.underlying26 rfl (Ob.info26 _ _ _)) rfl ?_
        refine ⟨A2, n2, c2, A3, n3, c3, C, ny, f, rfl, (hU.out.otherRow hG.out (by decide) _).rg.rw hUr.out, (hV.out.otherRow hG.out (by decide) _).rg, (hO.out.otherRow hG.out (by decide) _).sy, Bel.setRow hB.out (Nat.le_refl _) _⟩
      · have X1 := T3.out cm
        subst X1
        generalize Ob.may W' S' ys = z at *
        have z1 : (z == 0) = false := by simpa using cm
        have z2 : (z != 0) = true := by simpa using cm
        clear T3 T4 hU hV hO hN
        go_wp2_with (first
          | (with_reducible refine want_do (o := ⟨some 39, _, _, _, _, _⟩) rfl (Fi.exec26 rfl) ?_)
          | (with_reducible refine store_has (o := ⟨none, _, _, _, _, _⟩) rfl 26 (.tmp 2) (.tmp 39) rfl w.heap.size #[.slice none 0 0, .slice none 0 0, .slice none 0 0] rfl rfl hG.out (Ob.info26 _ _ _) rfl (Ob.oneS _ _ _ _ _ _ _ _ _) ?_)
          | fail)
        refine bodyPost_ret (results_has2 rfl w.heap.size rfl (hG.out.row _) Try.underlying26 rfl (Ob.info26 _ _ _)) rfl ?_
        exact Fi.takeR_err rfl (Bel.setRow hB.out (Nat.le_refl _) _)
end Go.Proofs.Ytpfejjkoemnmiaa
/-
  The contract of Put of package file.
-/
namespace Go.Proofs.Ytpfejjkoemnmiaa
open Go.RowKit
set_option linter.unusedVariables false
set_option linter.unusedSimpArgs false
set_option maxRecDepth 100000
theorem Fi.one_le {y : Ob.Y} (h : Ob.Good y.1) : (Fi.one y).length ≤ 20 := by
  rw [Fi.one_len]
  have h1 := (L.name_len h).2
  have h2 := L.whole_le (L.bs y.1).length
  omega
theorem Fi.names_len : ∀ {ys : List Ob.Y}, (∀ y ∈ ys, Fi.OkY y) → (Fi.names ys).length ≤ 20 * ys.length
  | [], _ => Nat.le_refl _
  | y :: ys, h => by
    have h1 := Fi.one_le (h y List.mem_cons_self).1
    have h2 := Fi.names_len (fun z hz => h z (List.mem_cons_of_mem y hz))
    rw [show Fi.names (y :: ys) = Fi.one y ++ Fi.names ys from rfl, List.length_append, List.length_cons]
    omega
theorem Fi.Ok.at {W S : List Int} {Y : List Ob.Y} (h : Fi.Ok W S Y) {k : Nat} (hk : k < Y.length) : Fi.OkY (Ob.nm Y k, Ob.pl Y k) := by
  rw [Ob.nm_get hk, Ob.pl_get hk]
  exact h.hN _ (List.getElem_mem hk)
theorem Fi.put_no {w : World} {ws ss : List Int} {ys : List Ob.Y} (h : ¬ Ob.may ws ss ys = 0) : Fi.pB ws ss ys = [] := by unfold Fi.pB; rw [if_neg h]
theorem Fi.put_yes {w : World} {ws ss : List Int} {ys : List Ob.Y} (h : Ob.may ws ss ys = 0) : Fi.pB ws ss ys = Fi.put ws ss ys := by unfold Fi.pB; rw [if_pos h]
set_option maxHeartbeats 4000000 in
set_option maxRecDepth 100000 in
theorem Fi.put_any {w : World} {A B C : Option Addr} {n c m d k e : Nat} {ws ss : List Int} {ys : List Ob.Y} (hW : Wo w A n c ws) (hS : In w B m d ss) (hY : Sy w C k e ys) (hsz : ∀ y ∈ ys, y.1.size ≤ 1000000) :
    Calls Try.prog 21 #[.agg #[.slice A n c, .slice B m d, .slice C k e]] w fun r w' => ∃ A' n' c', r = .returned (.tuple #[.slice A' n' c', .int .i64 (Ob.may ws ss ys)]) ∧ On 5 .u8 w.heap.size A' n' c' (Fi.pB ws ss ys) w' ∧ Below w.heap.size w w' := by
  have hO := Has.new #[.slice A n c, .slice B m d, .slice C k e] 26 w
  have hB := ((Kept.refl w).alloc #[.slice A n c, .slice B m d, .slice C k e] 26).below
  have hlw := hW.len
  have hly := hY.len
  have hle2 := hY.le
  have hmx2 := hY.max
  unfold maxLen at hmx2
  have hwr := hW.rng
  have hS1 : w.heap.size ≤ (w.alloc (.cells #[.slice A n c, .slice B m d, .slice C k e] 26)).heap.size := hB.size
  have hYw := Lib.hid hY
  replace hW := Lib.hid (hW.below hB)
  replace hS := Lib.hid (hS.below hB)
  replace hY := Lib.hid (hY.below hB)
  replace hB := Lib.hid hB
  by_cases cm : Ob.may ws ss ys = 0
  case neg =>
    rw [Fi.put_no (w := w) cm]
    have CM := Lib.hid (fun (v : World) (hv : Below w.heap.size w v) (h1 : Wo v A n c ws) (h2 : In v B m d ss) (h3 : Sy v C k e ys) => Ob.may_any h1 h2 h3 hsz)
    generalize Ob.may ws ss ys = z at *
    have z1 : (z == 0) = false := by simpa using cm
    have z2 : (z != 0) = true := by simpa using cm
    replace hO := Lib.hid hO
    go_enter Try.func21, Try.ntmps21
    go_wp2_with (first
      | (with_reducible refine load_has (o := ⟨some 13, _, _, _, _, _⟩) rfl 26 (.tmp 1) rfl w.heap.size rfl hO.out Try.underlying26 rfl (Ob.info26 _ _ _) ?_)
      | fail)
    generalize w.alloc (.cells #[.slice A n c, .slice B m d, .slice C k e] 26) = w1 at *
    refine (CM.out _ hB.out hW.out hS.out hY.out).mono ?_; rintro r w2 ⟨rfl, hE⟩
    replace hB := Lib.hid (hB.out.trans (hE.mono hS1))
    clear hE CM hW hS hY hO
    go_wp2
    go_ret2
    exact ⟨none, 0, 0, rfl, On.none _ _ _ _, hB.out⟩
  rw [Fi.put_yes (w := w) cm]
  have hK := Fi.may_ok hwr cm
  have hPr := Lib.hid hK.pk
  obtain ⟨e1, e2, e3⟩ := hK.pack
  have hPl := Ch.pk_len ws ss ss.length
  have hn := hK.hn
  have hk := hK.hy
  have hh := hK.head
  have hpu : Fi.put ws ss ys = L.put (Fi.head (n : Int) (Ch.prev ss ss.length + 1) (k : Int)) ++ L.put (Ch.pk ws ss ss.length) ++ Fi.names ys := by unfold Fi.put; rw [hlw, hly]
  rw [hpu]
  have CM := Lib.hid (fun (v : World) (h1 : Wo v A n c ws) (h2 : In v B m d ss) (h3 : Sy v C k e ys) => Ob.may_any h1 h2 h3 hsz)
  have CP := Lib.hid (fun (v : World) (h1 : Wo v A n c ws) (h2 : In v B m d ss) => Ch.pack_any h1 h2 (by omega))
  rw [e1, e2, e3] at CP
  rw [cm] at CM ⊢
  rw [hlw] at hPl hn
  rw [hly] at hk
  clear hpu e1 e2 e3 hwr
  generalize Ch.pk ws ss ss.length = P at *
  generalize Ch.prev ss ss.length + 1 = hd at *
  have hh0 := hh.1
  have hh1 := hh.2
  replace hK := Lib.hid hK
  replace hO := Lib.hid hO
  go_enter Try.func21, Try.ntmps21
  go_wp2_with (first
    | (with_reducible refine load_has (o := ⟨some 13, _, _, _, _, _⟩) rfl 26 (.tmp 1) rfl w.heap.size rfl hO.out Try.underlying26 rfl (Ob.info26 _ _ _) ?_)
    | fail)
  generalize w.alloc (.cells #[.slice A n c, .slice B m d, .slice C k e] 26) = w1 at *
  refine (CM.out _ hW.out hS.out hY.out).mono ?_; rintro r w2 ⟨rfl, hE⟩
  replace hB := Lib.hid (hB.out.trans (hE.mono hS1))
  have hS2 : w.heap.size ≤ w2.heap.size := Nat.le_trans hS1 hE.size
  replace hO := hO.out.below hE
  replace hW := Lib.hid (hW.out.below hE)
  replace hS := Lib.hid (hS.out.below hE)
  replace hY := Lib.hid (hY.out.below hE)
  clear hE CM
  have o0 := hO.cell 0 (.slice A n c) rfl
  have o1 := hO.cell 1 (.slice B m d) rfl
  replace hO := Lib.hid hO
  go_wp2_with (fail)
  clear o0 o1
  refine (CP.out _ hW.out hS.out).mono ?_; rintro r w3 ⟨A1, n1, c1, rfl, hP, hE⟩
  replace hB := Lib.hid (hB.out.trans (hE.mono hS2))
  have hS3 : w.heap.size ≤ w3.heap.size := Nat.le_trans hS2 hE.size
  replace hO := hO.out.below hE
  replace hY := Lib.hid (hY.out.below hE)
  have hPw := hP.rg.rw hPr.out
  have hn1 : n1 = n := by rw [← hPw.len, hPl]
  subst hn1
  clear hE CP hW hS hP
  have o2 := hO.cell 2 (.slice C k e) rfl
  have hA := ((Kept.refl w3).alloc #[.int .u32 894847314, .int .u32 n1, .int .u32 hd, .int .u32 k] 37).below
  have hH := Lib.hid (show Wo _ (some ⟨w3.heap.size, 0, none⟩) 4 4 (Fi.head (n1 : Int) hd (k : Int)) from Rw.of (k := .u32) (L := 4294967296) (Fi.head (n1 : Int) hd (k : Int)) (Has.new #[.int .u32 894847314, .int .u32 n1, .int .u32 hd, .int .u32 k] 37 w3) (by simp [Fi.head, maxLen]) (by intro x hx; simp only [Fi.head, List.mem_cons, List.not_mem_nil, or_false] at hx; rcases hx with rfl | rfl | rfl | rfl <;> omega))
  have hS4 : w.heap.size ≤ (w3.alloc (.cells #[.int .u32 894847314, .int .u32 n1, .int .u32 hd, .int .u32 k] 37)).heap.size := Nat.le_trans hS3 hA.size
  replace hB := Lib.hid (hB.out.trans (hA.mono hS3))
  replace hO := Lib.hid (hO.below hA)
  replace hY := Lib.hid (hY.out.below hA)
  replace hPw := Lib.hid (hPw.below hA)
  clear hA
  go_wp2_with (fail)
  clear o2
  generalize w3.alloc (.cells #[.int .u32 894847314, .int .u32 n1, .int .u32 hd, .int .u32 k] 37) = w4 at *
  refine (L.put_own hH.out (by omega)).mono ?_; rintro r w5 ⟨g, cap, rfl, hQ, hE⟩
  replace hB := Lib.hid (hB.out.trans (hE.mono hS4))
  have hS5 : w.heap.size ≤ w5.heap.size := Nat.le_trans hS4 hE.size
  replace hO := Lib.hid (hO.out.below hE)
  replace hY := Lib.hid (hY.out.below hE)
  replace hPw := Lib.hid (hPw.out.below hE)
  replace hQ := Lib.hid (hQ.lower hS4)
  clear hE hH
  go_wp2_with (fail)
  refine (L.put_any hPw.out (by omega)).mono ?_; rintro r w6 ⟨g6, cap6, rfl, hZ, hE⟩
  replace hB := Lib.hid (hB.out.trans (hE.mono hS5))
  have hS6 : w.heap.size ≤ w6.heap.size := Nat.le_trans hS5 hE.size
  replace hO := Lib.hid (hO.out.below hE)
  replace hY := Lib.hid (hY.out.below hE)
  replace hQ := Lib.hid (hQ.out.below hE)
  replace hZ := Lib.hid hZ
  clear hE hPw
  go_wp2_with (first
    | (with_reducible refine append_row (o := ⟨some 41, _, _, _, _, _⟩) (L := 256) Try.underlying42 L.info8 (by omega) rfl (.tmp 38) (.tmp 40) rfl w.heap.size g (4 * 4) cap _ rfl hQ.out _ (4 * n1) cap6 _ rfl hZ.out (by omega) hS6 ?_
       intro g7 cap7 w7 hQ7 hG7
       have hB7 := Lib.hid (hB.out.grown hG7 hS6 (fun q e => by cases e; exact hQ.out.has.1))
       have hO7 := Lib.hid (hO.out.grown hG7 (hQ.out.on.ne hO.out (by decide)))
       have o2 := hO7.out.cell 2 (.slice C k e) rfl
       obtain ⟨N0, hN0⟩ : ∃ N, 4 * 4 + 4 * n1 = N := ⟨_, rfl⟩
       rw [hN0] at hQ7 ⊢
       replace hQ7 := Lib.hid hQ7
       clear hG7 hB hO hQ hZ hY)
    | fail)
  clear o2
  have hN1 : N0 ≤ 5000 := by omega
  obtain ⟨Z, hZe⟩ : ∃ Z, L.put (Fi.head (n1 : Int) hd (k : Int)) ++ L.put P = Z := ⟨_, rfl⟩
  rw [hZe] at hQ7
  replace hZe := Lib.hid hZe
  clear hN0 hPl hlw hPr
  go_loopw [8, 45] (fun b i wr => ∃ (j g N cap : Nat), j ≤ k ∧ N ≤ 5000 + 20 * j ∧ i = .int .i64 j ∧ b = .slice (some ⟨g, 0, none⟩) N cap ∧ Ow 5 .u8 w.heap.size g N cap (Z ++ Fi.names (ys.take j)) wr ∧ Below w.heap.size w wr) (fun _ i _ => k - (intOf i).toNat)
  case atStart => exact ⟨0, g7, N0, cap7, Nat.zero_le _, by omega, rfl, rfl, by rw [List.take_zero, show Fi.names [] = [] from rfl, List.append_nil]; exact hQ7.out, hB7.out⟩
  case round =>
    clear hB7 hQ7 hO7
    obtain ⟨j, g, N, cap, hj, hN, rfl, rfl, hQ, hB⟩ := hrel
    by_cases d1 : j < k
    · have d2 : (j : Int) < k := by omega
      obtain ⟨bc, oc, rfl⟩ := hYw.out.place (by omega)
      have g1 := (hYw.out.below hB).name j d1
      have g2 := (hYw.out.below hB).at j d1
      have hyk := hK.out.at (k := j) (by omega)
      have R := Fi.names_take (ys := ys) (k := j) (by omega)
      have hs0 : (Ob.nm ys j).size ≤ 1000000 := Ob.size_at hsz j
      have hol := Fi.one_le hyk.1
      generalize Ob.nm ys j = s at *
      generalize Ob.pl ys j = p at *
      have hp0 : 0 ≤ p := hyk.2.1
      have hp1 : p < 4294967296 := hyk.2.2
      have hsn : L.name (L.bs s) = true := hyk.1
      have hpn : L.pnE (L.bs s) = 0 ∧ L.pnB (L.bs s) = L.nameB (L.bs s) := by
        unfold L.pnE L.pnB
        rw [if_pos hsn, if_pos hsn]; exact ⟨rfl, rfl⟩
      have hol2 := hol
      rw [Fi.one_len] at hol2
      have hnl := L.nameB_len (L.bs s)
      rw [show Fi.one (s, p) = L.nameB (L.bs s) ++ L.put [p] from by unfold Fi.one; rw [Fi.four_put]] at R
      replace R := Lib.hid R
      have hSr : w.heap.size ≤ wr.heap.size := hB.size
      have hA := ((Kept.refl wr).alloc #[.string s, .int .i64 p] 54).below
      have hX := Lib.hid (Has.new #[.string s, .int .i64 p] 54 wr)
      have hS8 : w.heap.size ≤ (wr.alloc (.cells #[.string s, .int .i64 p] 54)).heap.size := Nat.le_trans hSr hA.size
      have hB8 := Lib.hid (hB.trans (hA.mono hSr))
      have hQ8 := Lib.hid (hQ.below hA)
      clear hA hQ hB hyk hol hsn
      go_wp2_with (fail)
      clear g1 g2
      generalize wr.alloc (.cells #[.string s, .int .i64 p] 54) = w8 at *
      refine (L.putName_any s hs0 w8).mono ?_; rintro r w9 ⟨A9, n9, c9, rfl, hM, hE⟩
      rw [hpn.1]
      rw [hpn.2] at hM
      have hn9 : n9 ≤ 16 := by rw [← hM.len, hnl]; omega
      have hB9 := Lib.hid (hB8.out.trans (hE.mono hS8))
      have hS9 : w.heap.size ≤ w9.heap.size := Nat.le_trans hS8 hE.size
      have hX9 := Lib.hid (hX.out.below hE)
      have hQ9 := Lib.hid (hQ8.out.below hE)
      replace hM := Lib.hid hM
      clear hE hB8 hQ8 hX hpn hnl hol2
      go_upto_region 12 with (first
        | (with_reducible refine append_row (o := ⟨some 57, _, _, _, _, _⟩) (L := 256) Try.underlying42 L.info8 (by omega) rfl (.tmp 55) (.tmp 56) rfl w.heap.size g N cap _ rfl hQ9.out _ n9 c9 _ rfl hM.out (by omega) hS9 ?_
           intro g10 cap10 w10 hQ10 hG10
           have hB10 := Lib.hid (hB9.out.grown hG10 hS9 (fun q e => by cases e; exact hQ9.out.has.1))
           have hX10 := Lib.hid (hX9.out.grown hG10 (hQ9.out.on.ne hX9.out (by decide)))
           obtain ⟨N2, hN2⟩ : ∃ N2, N + n9 = N2 := ⟨_, rfl⟩
           rw [hN2] at hQ10 ⊢
           replace hQ10 := Lib.hid hQ10
           clear hG10 hB9 hX9 hQ9 hM)
        | fail)
      have x1 := hX10.out.cell 1 (.int .i64 p) rfl
      have hS10 : w.heap.size ≤ w10.heap.size := hB10.out.size
      have hA := ((Kept.refl w10).alloc #[.int .u32 p] 37).below
      have hV := Lib.hid (Rw.one (k := .u32) (L := 4294967296) (Has.new #[.int .u32 p] 37 w10) hp0 hp1)
      have hS11 : w.heap.size ≤ (w10.alloc (.cells #[.int .u32 p] 37)).heap.size := Nat.le_trans hS10 hA.size
      have hB11 := Lib.hid (hB10.out.trans (hA.mono hS10))
      have hQ11 := Lib.hid (hQ10.out.below hA)
      clear hA hB10 hQ10 hX10
      go_wp2_with (fail)
      clear x1
      generalize w10.alloc (.cells #[.int .u32 p] 37) = w11 at *
      refine (L.put_any hV.out (by omega)).mono ?_; rintro r w12 ⟨g12, cap12, rfl, hM, hE⟩
      have hB12 := Lib.hid (hB11.out.trans (hE.mono hS11))
      have hS12 : w.heap.size ≤ w12.heap.size := Nat.le_trans hS11 hE.size
      have hQ12 := Lib.hid (hQ11.out.below hE)
      replace hM := Lib.hid hM
      clear hE hB11 hQ11 hV
      go_wp2_with (first
        | (with_reducible refine append_row (o := ⟨some 64, _, _, _, _, _⟩) (L := 256) Try.underlying42 L.info8 (by omega) rfl (.tmp 58) (.tmp 63) rfl w.heap.size g10 N2 cap10 _ rfl hQ12.out _ (4 * 1) cap12 _ rfl hM.out (by omega) hS12 ?_
           intro g13 cap13 w13 hQ13 hG13
           have hB13 := Lib.hid (hB12.out.grown hG13 hS12 (fun q e => by cases e; exact hQ12.out.has.1))
           obtain ⟨N3, hN3⟩ : ∃ N3, N2 + 4 * 1 = N3 := ⟨_, rfl⟩
           rw [hN3] at hQ13 ⊢
           rw [List.append_assoc, List.append_assoc, ← R.out] at hQ13
           replace hQ13 := Lib.hid hQ13
           clear hG13 hB12 hQ12 hM)
        | fail)
      go_roundw
      case rel => exact ⟨j + 1, g13, N3, cap13, by omega, by omega, by go_num, rfl, hQ13.out, hB13.out⟩
      case measure => simp [intOf]; omega
    · have d2 : ¬ (j : Int) < k := by omega
      obtain rfl : j = k := by omega
      rw [List.take_of_length_le (by omega)] at hQ
      replace hQ := Lib.hid hQ
      replace hB := Lib.hid hB
      go_wp2
      go_ret2
      exact ⟨some ⟨g, 0, none⟩, N, cap, rfl, by have h := hQ.out.on; rwa [← hZe.out, List.append_assoc] at h, hB.out⟩
end Go.Proofs.Ytpfejjkoemnmiaa
