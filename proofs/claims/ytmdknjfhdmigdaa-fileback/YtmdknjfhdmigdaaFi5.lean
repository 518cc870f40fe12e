/-
  The contract of the document's Take of package file.
-/
import Derived.Test.YtmdknjfhdmigdaaFi4
import Derived.Test.YtmdknjfhdmigdaaOb4
import Derived.Test.YtmdknjfhdmigdaaLe6
import Derived.Test.YtmdknjfhdmigdaaCh8
import Derived.Test.YtmdknjfhdmigdaaObW
namespace Go.Proofs.Ytmdknjfhdmigdaa
open Go.RowKit
set_option linter.unusedVariables false
set_option linter.unusedSimpArgs false
set_option maxRecDepth 100000
theorem Rw.dropped {k : IntKind} {L : Int} {w : World} {A : Option Addr} {n c : Nat} {xs : List Int} (h : Rw k L w A n c xs) (i : Nat) (hi : i ≤ n) : (xs.drop i).length = n - i := by rw [List.length_drop, h.len]
/-- the rest of a slice, behind l of its bytes -/
theorem Fi.exec_tail {o : Oper} {a : Act} {w : World} (x y : Operand) (ho : o.op = .slice 27 x (some y) none none) {A : Option Addr} {n c : Nat} (hx : a.eval x = .slice A n c) {li : Int} (hy : a.eval y = .int .i64 li) {l : Nat} (hli : li = (l : Int)) (hl : l ≤ n) :
    (execOp a.eval o).run Try.prog w = .ok (.value (.slice (Fi.at A c l) (n - l) (c - l))) w := by
  have he : Try.prog.elem 27 = 5 := by simp [Program.elem, Try.underlying27]
  have ht : Try.prog.underlying 27 = some (.slice (Try.prog.elem 27)) := by rw [he]; exact Try.underlying27
  have hs : (Try.prog.info? 5).map (·.size) = some 1 := by kernel_rfl
  have hz : (sizeOf (Try.prog.elem 27)).run Try.prog w = .ok 1 w := by rw [he]; exact run_sizeOf hs w
  have hr := run_slice_l (P := Try.prog) w 27 A n c ht .i64 li (by omega) (by omega)
  rw [hz] at hr
  subst hli
  unfold execOp
  simp only [ho, hx, hy, Option.map_some, Option.map_none, Sem.run_bind, Sem.run_pure, Result.andThen_ok, run_sliceAt_slice _ _ _ _ _ _ ht, hr]
  simp [sliced, Fi.at]
set_option maxHeartbeats 2500000 in
set_option maxRecDepth 100000 in
theorem Fi.rtake_any {w : World} {A : Option Addr} {m c : Nat} {bs : List Int} (h : By w A m c bs) (hm : m ≤ 1000000) :
    Calls Try.prog 15 #[.slice A m c] w fun e w' => Fi.TakeR w w' e (Fi.take bs) := by
  have hl := h.len
  have hle := h.le
  have hbr := Lib.hid h.rng
  have hG := Lib.hid (Has.new #[.slice none 0 0, .slice none 0 0, .slice none 0 0] 26 w)
  have hB := (((Kept.refl w).alloc #[.slice none 0 0, .slice none 0 0, .slice none 0 0] 26).below)
  have hX := Lib.hid (h.below hB)
  have hS : w.heap.size ≤ (w.alloc (.cells #[.slice none 0 0, .slice none 0 0, .slice none 0 0] 26)).heap.size := hB.size
  replace hB := Lib.hid hB
  obtain ⟨X, hXe⟩ : ∃ X, Fi.take bs = X := ⟨_, rfl⟩
  rw [hXe]
  replace hXe := Lib.hid hXe
  by_cases c1 : m < 16
  · have X1 := hXe.out.symm.trans (Fi.take_1 (Fi.parts_1 (by omega)))
    subst X1
    have T4 := Lib.hid (L.tk_no (bs := bs) (n := 4) (Or.inr (by omega)))
    clear h
    go_enter Try.func15, Try.ntmps15
    go_wp2_with (fail)
    generalize w.alloc (.cells #[.slice none 0 0, .slice none 0 0, .slice none 0 0] 26) = w1 at *
    refine (L.rtake_any hX.out hm 4).mono ?_; rintro e w2 ⟨A1, k, c1', rfl, hW, hE⟩
    rw [T4.out.1]
    replace hB := Lib.hid (hB.out.trans (hE.mono hS))
    replace hG := Lib.hid (hG.out.below hE)
    clear hE hX hW T4
    go_wp2_with (first
      | (with_reducible refine want_do (o := ⟨some 27, _, _, _, _, _⟩) rfl (Fi.exec26 rfl) ?_)
      | (with_reducible refine store_has (o := ⟨none, _, _, _, _, _⟩) rfl 26 (.tmp 2) (.tmp 27) rfl w.heap.size #[.slice none 0 0, .slice none 0 0, .slice none 0 0] rfl rfl hG.out (Ob.info26 _ _ _) rfl (Ob.oneS _ _ _ _ _ _ _ _ _) ?_)
      | fail)
    refine bodyPost_ret (results_has2 rfl w.heap.size rfl (hG.out.row _) Try.underlying26 rfl (Ob.info26 _ _ _)) rfl ?_
    exact Fi.takeR_err rfl (Bel.setRow hB.out (Nat.le_refl _) _)
  have hl16 : ¬ bs.length < 16 := by omega
  have P2 := Lib.hid (Fi.parts_2 hl16)
  have P3 := Lib.hid (Fi.parts_3 hl16)
  have P4 := Lib.hid (Fi.parts_4 hl16)
  have P5 := Lib.hid (Fi.parts_5 hl16)
  have hr1 := L.word_rng bs h.rng 4
  have hr2 := L.word_rng bs h.rng 8
  have hr3 := L.word_rng bs h.rng 12
  have hws : L.words bs 4 = [L.word bs 0, L.word bs 4, L.word bs 8, L.word bs 12] := rfl
  have T4 := L.tk_yes (bs := bs) (n := 4) (by omega)
  rw [hws] at T4
  replace T4 := Lib.hid (show L.tkE bs 4 = 0 ∧ L.tkW bs 4 = _ from T4)
  clear hws
  generalize L.word bs 0 = x0 at *
  generalize L.word bs 4 = x1 at *
  generalize L.word bs 8 = x2 at *
  generalize L.word bs 12 = x3 at *
  obtain ⟨n1, hn1⟩ := Int.eq_ofNat_of_zero_le hr1.1
  obtain ⟨n3, hn3⟩ := Int.eq_ofNat_of_zero_le hr3.1
  subst hn1 hn3
  rw [Int.toNat_natCast] at P4 P5
  rw [Int.toNat_natCast] at P5
  have h0 := h
  replace h := Lib.hid h
  clear hl
  go_enter Try.func15, Try.ntmps15
  go_wp2_with (fail)
  generalize w.alloc (.cells #[.slice none 0 0, .slice none 0 0, .slice none 0 0] 26) = w1 at *
  refine (L.rtake_any hX.out hm 4).mono ?_; rintro e w2 ⟨A1, k, c1', rfl, hW, hE⟩
  rw [T4.out.1]
  rw [T4.out.2] at hW
  replace hB := Lib.hid (hB.out.trans (hE.mono hS))
  replace hG := Lib.hid (hG.out.below hE)
  replace hS : w.heap.size ≤ w2.heap.size := Nat.le_trans hS hE.size
  have hk4 : k = 4 := by rw [← hW.len]; rfl
  subst hk4
  obtain ⟨b, off, rfl⟩ := hW.place (by omega)
  have g0 := hW.cellAt 0 x0 rfl
  rw [Nat.add_zero] at g0
  replace hW := Lib.hid hW
  clear hE hX T4 h0
  by_cases c2 : x0 = 894847314
  case neg =>
    have X1 := hXe.out.symm.trans (Fi.take_1 (P2.out c2))
    subst X1
    have z1 : (x0 == 894847314) = false := by simpa using c2
    have z2 : (x0 != 894847314) = true := by simpa using c2
    clear hXe hW
    go_wp2_with (first
      | (with_reducible refine want_do (o := ⟨some 33, _, _, _, _, _⟩) rfl (Fi.exec26 rfl) ?_)
      | (with_reducible refine store_has (o := ⟨none, _, _, _, _, _⟩) rfl 26 (.tmp 2) (.tmp 33) rfl w.heap.size #[.slice none 0 0, .slice none 0 0, .slice none 0 0] rfl rfl hG.out (Ob.info26 _ _ _) rfl (Ob.oneS _ _ _ _ _ _ _ _ _) ?_)
      | fail)
    refine bodyPost_ret (results_has2 rfl w.heap.size rfl (hG.out.row _) Try.underlying26 rfl (Ob.info26 _ _ _)) rfl ?_
    exact Fi.takeR_err rfl (Bel.setRow hB.out (Nat.le_refl _) _)
  subst c2
  have g1 := hW.out.cellAt 1 (n1 : Int) rfl
  have g3 := hW.out.cellAt 3 (n3 : Int) rfl
  by_cases c3 : 1024 < (n1 : Int)
  · have X1 := hXe.out.symm.trans (Fi.take_1 (P3.out rfl (Or.inl c3)))
    subst X1
    clear hXe hW
    go_wp2_with (first
      | (with_reducible refine want_do (o := ⟨some 44, _, _, _, _, _⟩) rfl (Fi.exec26 rfl) ?_)
      | (with_reducible refine store_has (o := ⟨none, _, _, _, _, _⟩) rfl 26 (.tmp 2) (.tmp 44) rfl w.heap.size #[.slice none 0 0, .slice none 0 0, .slice none 0 0] rfl rfl hG.out (Ob.info26 _ _ _) rfl (Ob.oneS _ _ _ _ _ _ _ _ _) ?_)
      | fail)
    refine bodyPost_ret (results_has2 rfl w.heap.size rfl (hG.out.row _) Try.underlying26 rfl (Ob.info26 _ _ _)) rfl ?_
    exact Fi.takeR_err rfl (Bel.setRow hB.out (Nat.le_refl _) _)
  by_cases c4 : 64 < (n3 : Int)
  · have X1 := hXe.out.symm.trans (Fi.take_1 (P3.out rfl (Or.inr c4)))
    subst X1
    clear hXe hW
    go_wp2_with (first
      | (with_reducible refine want_do (o := ⟨some 44, _, _, _, _, _⟩) rfl (Fi.exec26 rfl) ?_)
      | (with_reducible refine store_has (o := ⟨none, _, _, _, _, _⟩) rfl 26 (.tmp 2) (.tmp 44) rfl w.heap.size #[.slice none 0 0, .slice none 0 0, .slice none 0 0] rfl rfl hG.out (Ob.info26 _ _ _) rfl (Ob.oneS _ _ _ _ _ _ _ _ _) ?_)
      | fail)
    refine bodyPost_ret (results_has2 rfl w.heap.size rfl (hG.out.row _) Try.underlying26 rfl (Ob.info26 _ _ _)) rfl ?_
    exact Fi.takeR_err rfl (Bel.setRow hB.out (Nat.le_refl _) _)
  have c34 : ¬ (1024 < (n1 : Int) ∨ 64 < (n3 : Int)) := by omega
  replace P4 := Lib.hid (P4.out rfl c34)
  replace P5 := Lib.hid (P5.out rfl c34)
  clear P2 P3
  obtain ⟨R1, hR1⟩ : ∃ R : Option Addr, Fi.at A c 16 = R := ⟨_, rfl⟩
  have hT := h.out.tail 16 (by omega)
  have hdl := h.out.dropped 16 (by omega)
  rw [hR1] at hT
  obtain ⟨q0, hq0⟩ : ∃ q0, 16 + 4 * n1 = q0 := ⟨_, rfl⟩
  have hdd : (bs.drop 16).drop (4 * n1) = bs.drop q0 := by rw [List.drop_drop, hq0]
  rw [hdd] at P5
  generalize bs.drop 16 = b1 at *
  replace hT := Lib.hid (hT.below hB.out)
  have hm1' : m - 16 ≤ 1000000 := by omega
  have hc16 : (16 : Int) ≤ c := by omega
  have hm16 : (16 : Int) ≤ m := by omega
  by_cases c5 : m - 16 < 4 * n1
  · have X1 := hXe.out.symm.trans (Fi.take_1 (P4.out (by omega)))
    subst X1
    have TN := Lib.hid (L.tk_no (bs := b1) (n := n1) (Or.inr (by omega)))
    clear hXe hW hdl
    go_wp2_with (first | (with_reducible refine want_do (o := ⟨some 51, _, _, _, _, _⟩) rfl (Fi.exec_tail (.tmp 50) (.const (.int .i64 16)) rfl rfl rfl (l := 16) (by omega) (by omega)) ?_) | fail)
    clear g0 g1 g3
    refine (L.rtake_any hT.out hm1' n1).mono ?_; rintro e w4 ⟨A4, k4, c4', rfl, hW, hE⟩
    rw [TN.out.1]
    replace hB := Lib.hid (hB.out.trans (hE.mono hS))
    replace hG := Lib.hid (hG.out.below hE)
    clear hE hT hW TN
    go_wp2_with (first
      | (with_reducible refine want_do (o := ⟨some 58, _, _, _, _, _⟩) rfl (Fi.exec26 rfl) ?_)
      | (with_reducible refine store_has (o := ⟨none, _, _, _, _, _⟩) rfl 26 (.tmp 2) (.tmp 58) rfl w.heap.size #[.slice none 0 0, .slice none 0 0, .slice none 0 0] rfl rfl hG.out (Ob.info26 _ _ _) rfl (Ob.oneS _ _ _ _ _ _ _ _ _) ?_)
      | fail)
    refine bodyPost_ret (results_has2 rfl w.heap.size rfl (hG.out.row _) Try.underlying26 rfl (Ob.info26 _ _ _)) rfl ?_
    exact Fi.takeR_err rfl (Bel.setRow hB.out (Nat.le_refl _) _)
  replace P5 := Lib.hid (P5.out (by omega))
  have TN := L.tk_yes (bs := b1) (n := n1) (by omega)
  have hPl : (L.words b1 n1).length = n1 := by simp [L.words]
  have hPp := Lib.hid (show ∀ ys r, Fi.go n3 (bs.drop q0) = .ok (ys, r) → ¬ 0 < r.length → Fi.parts bs = .ok (L.words b1 n1, x2, ys) from fun ys r hg hr => by rw [P5.out, hg]; simp only []; rw [if_neg hr])
  have hPq := Lib.hid (show ∀ ys r, Fi.go n3 (bs.drop q0) = .ok (ys, r) → 0 < r.length → Fi.parts bs = .error 4 from fun ys r hg hr => by rw [P5.out, hg]; simp only []; rw [if_pos hr])
  have hPe := Lib.hid (show ∀ z, Fi.go n3 (bs.drop q0) = .error z → Fi.parts bs = .error z from fun z hg => by rw [P5.out, hg])
  clear P4 P5
  generalize L.words b1 n1 = P at *
  replace TN := Lib.hid TN
  go_wp2_with (first | (with_reducible refine want_do (o := ⟨some 51, _, _, _, _, _⟩) rfl (Fi.exec_tail (.tmp 50) (.const (.int .i64 16)) rfl rfl rfl (l := 16) (by omega) (by omega)) ?_) | fail)
  clear g0 g1 g3
  refine (L.rtake_any hT.out hm1' n1).mono ?_; rintro e w3 ⟨A4, k4, c4', rfl, hP, hE⟩
  rw [TN.out.1]
  rw [TN.out.2] at hP
  have hB3 := hB.out.trans (hE.mono hS)
  replace hG := Lib.hid (hG.out.below hE)
  have hlt3 := hG.out.lt
  replace hW := Lib.hid (hW.out.below hE)
  have hk4 : k4 = n1 := by rw [← hP.len, hPl]
  replace hS : w.heap.size ≤ w3.heap.size := Nat.le_trans hS hE.size
  clear hE hT TN hB hdl
  obtain ⟨R2, hR2⟩ : ∃ R : Option Addr, Fi.at A c q0 = R := ⟨_, rfl⟩
  have hq0m : q0 ≤ m := by omega
  have hT2 := h.out.tail q0 hq0m
  have hT2l := h.out.dropped q0 hq0m
  rw [hR2] at hT2
  obtain ⟨G0, hG0⟩ : ∃ G0, Fi.go n3 (bs.drop q0) = G0 := ⟨_, rfl⟩
  rw [hG0] at hPp hPq hPe
  have hGo := Lib.hid (show G0 = Fi.pre [] (Fi.go (n3 - 0) (bs.drop q0)) by rw [Fi.pre_nil, Nat.sub_zero, hG0])
  clear hG0
  generalize bs.drop q0 = b2 at *
  have hqi : 16 + 4 * (n1 : Int) = q0 := by omega
  have hqc : (q0 : Int) ≤ c := by omega
  have hqm : (q0 : Int) ≤ m := by omega
  have g1 := hW.out.cellAt 1 (n1 : Int) rfl
  have hOw := Lib.hid (show Ob.Own w3.heap.size w3.heap.size none 0 0 none 0 0 none 0 0 [] [] [] (w3.alloc (.cells #[.slice none 0 0, .slice none 0 0, .slice none 0 0] 26)) from ⟨Has.new _ _ _, On.none _ _ _ _, On.none _ _ _ _, Os.none _ _ _, Nat.le_refl _⟩)
  have hEr := Lib.hid (((Kept.refl w3).alloc #[.slice none 0 0, .slice none 0 0, .slice none 0 0] 26).below)
  replace hP := Lib.hid hP
  replace hB3 := Lib.hid hB3
  go_wp2_with (first
    | (with_reducible refine want_do (o := ⟨some 64, _, _, _, _, _⟩) rfl (Fi.exec_tail (.tmp 60) (.tmp 63) rfl rfl rfl (l := q0) (by omega) (by omega)) ?_)
    | (with_reducible refine want_do (o := ⟨some 65, _, _, _, _, _⟩) rfl (Fi.exec26 rfl) ?_)
    | fail)
  clear g1
  generalize w3.alloc (.cells #[.slice none 0 0, .slice none 0 0, .slice none 0 0] 26) = w4 at *
  go_loopw [9, 11] (fun r i wr => ∃ (j : Nat) (ys : List Ob.Y) (rs : List Int) (C : Option Addr) (f : Nat) (B : Option Addr) (d n : Nat), j ≤ n3 ∧ i = .int .i64 j ∧ ys.length = j ∧ rs.length = n ∧ n ≤ m ∧ r = .slice B n d ∧ Ob.Own w3.heap.size w3.heap.size none 0 0 none 0 0 C j f [] [] ys wr ∧ By w B n d rs ∧ G0 = Fi.pre ys (Fi.go (n3 - j) rs) ∧ Below w3.heap.size w3 wr) (fun _ i _ => n3 - (intOf i).toNat)
  case atStart => exact ⟨0, [], b2, none, 0, R2, c - q0, m - q0, Nat.zero_le _, rfl, rfl, hT2l, by omega, rfl, hOw.out, hT2, hGo.out, hEr.out⟩
  case round =>
    clear hOw hGo hEr hT2 hT2l hR2
    obtain ⟨j, ys, rs, C, f, B, d, n, hj, rfl, hyl, hrl, hnm, rfl, hO, hR, hX, hEr⟩ := hrel
    have g3 := (hW.out.below hEr).cellAt 3 (n3 : Int) rfl
    have hBt := hB3.out.trans (hEr.mono hS)
    have hRr := Lib.hid (hR.below hBt)
    have hSr : w3.heap.size ≤ wr.heap.size := hEr.size
    have hGr := Lib.hid (hG.out.below hEr)
    by_cases d1 : j < n3
    · have d2 : (j : Int) < n3 := by omega
      rw [show n3 - j = (n3 - (j + 1)) + 1 by omega] at hX
      rcases Fi.step_cases (bs := rs) with ⟨s1, s2⟩ | ⟨s1, s2, s3⟩ | ⟨s1, s2, s3⟩
      · rw [Fi.pre_err s2] at hX
        have hV := L.tnV_not (rfl : L.tnE rs = L.tnE rs) s1
        obtain ⟨z, hz⟩ : ∃ z, L.tnE rs = z := ⟨_, rfl⟩
        rw [hz] at hV hX s1
        have X1 := hXe.out.symm.trans (Fi.take_1 (hPe.out _ hX))
        subst X1
        have z1 : (z == 0) = false := by simpa using s1
        have z2 : (z != 0) = true := by simpa using s1
        replace hV := Lib.hid hV
        have hBt2 := Lib.hid hBt
        clear s2 hX hBt hEr hO hR hXe
        go_wp2_with (fail)
        clear g3
        refine (L.rtakeName_any hRr.out (by omega)).mono ?_; rintro e w6 ⟨rfl, hE⟩
        rw [hV.out]
        have hB := Lib.hid (hBt2.out.trans (hE.mono (Nat.le_trans hS hSr)))
        replace hG := Lib.hid (hGr.out.below hE)
        clear hE hBt2 hGr
        go_wp2_with (first
          | (with_reducible refine want_do (o := ⟨some 82, _, _, _, _, _⟩) rfl (Fi.exec26 rfl) ?_)
          | (with_reducible refine store_has (o := ⟨none, _, _, _, _, _⟩) rfl 26 (.tmp 2) (.tmp 82) rfl w.heap.size #[.slice none 0 0, .slice none 0 0, .slice none 0 0] rfl rfl hG.out (Ob.info26 _ _ _) rfl (Ob.oneS _ _ _ _ _ _ _ _ _) ?_)
          | fail)
        refine bodyPost_ret (results_has2 rfl w.heap.size rfl (hG.out.row _) Try.underlying26 rfl (Ob.info26 _ _ _)) rfl ?_
        exact Fi.takeR_err rfl (Bel.setRow hB.out (Nat.le_refl _) _)
      · rw [Fi.pre_err s3] at hX
        have hu := L.tnE_used s1
        have hV : L.tnV rs = .tuple #[.string (strOfNums (L.tnX rs)), .int .i64 (Fi.used rs : Int), .int .i64 0] := L.tnV_ok s1
        have X1 := hXe.out.symm.trans (Fi.take_1 (hPe.out _ hX))
        subst X1
        have TZ := Lib.hid (L.tk_no (bs := rs.drop (Fi.used rs)) (n := 1) (Or.inr (by omega)))
        rw [List.length_drop, hrl] at s2
        rw [hrl] at hu
        have hT := hR.tail (Fi.used rs) hu
        have hdle := hR.le
        generalize Fi.used rs = u at *
        generalize strOfNums (L.tnX rs) = sx at *
        generalize rs.drop u = zs at *
        obtain ⟨R3, hR3⟩ : ∃ R : Option Addr, Fi.at B d u = R := ⟨_, rfl⟩
        rw [hR3] at hT
        have hud : (u : Int) ≤ d := by omega
        have hun : (u : Int) ≤ n := by omega
        replace hV := Lib.hid hV
        have hBt2 := Lib.hid hBt
        replace hT := Lib.hid hT
        clear s1 s3 hX hBt hEr hO hR hXe
        go_wp2_with (fail)
        clear g3
        refine (L.rtakeName_any hRr.out (by omega)).mono ?_; rintro e w6 ⟨rfl, hE⟩
        rw [hV.out]
        have hB := Lib.hid (hBt2.out.trans (hE.mono (Nat.le_trans hS hSr)))
        replace hG := Lib.hid (hGr.out.below hE)
        have hS6 := hB.out.size
        clear hE hBt2 hGr
        go_wp2_with (first | (with_reducible refine want_do (o := ⟨some 87, _, _, _, _, _⟩) rfl (Fi.exec_tail (.tmp 85) (.tmp 86) rfl rfl rfl (l := u) (by omega) (by omega)) ?_) | fail)
        refine (L.rtake_any (hT.out.below hB.out) (by omega) 1).mono ?_; rintro e w7 ⟨A7, k7, c7, rfl, hW7, hE⟩
        rw [TZ.out.1]
        replace hB := Lib.hid (hB.out.trans (hE.mono hS6))
        replace hG := Lib.hid (hG.out.below hE)
        clear hE hW7 TZ
        go_wp2_with (first
          | (with_reducible refine want_do (o := ⟨some 93, _, _, _, _, _⟩) rfl (Fi.exec26 rfl) ?_)
          | (with_reducible refine store_has (o := ⟨none, _, _, _, _, _⟩) rfl 26 (.tmp 2) (.tmp 93) rfl w.heap.size #[.slice none 0 0, .slice none 0 0, .slice none 0 0] rfl rfl hG.out (Ob.info26 _ _ _) rfl (Ob.oneS _ _ _ _ _ _ _ _ _) ?_)
          | fail)
        refine bodyPost_ret (results_has2 rfl w.heap.size rfl (hG.out.row _) Try.underlying26 rfl (Ob.info26 _ _ _)) rfl ?_
        exact Fi.takeR_err rfl (Bel.setRow hB.out (Nat.le_refl _) _)
      · rw [Fi.pre_ok s3] at hX
        have hu := L.tnE_used s1
        have hV : L.tnV rs = .tuple #[.string (strOfNums (L.tnX rs)), .int .i64 (Fi.used rs : Int), .int .i64 0] := L.tnV_ok s1
        have TZ := Lib.hid (show L.tkE (rs.drop (Fi.used rs)) 1 = 0 ∧ L.tkW (rs.drop (Fi.used rs)) 1 = [L.word (rs.drop (Fi.used rs)) 0] from L.tk_yes (bs := rs.drop (Fi.used rs)) (n := 1) (by omega))
        rw [List.length_drop, hrl] at s2
        rw [hrl] at hu
        have hT := hR.tail (Fi.used rs) hu
        have hT4 := hR.tail (Fi.used rs + 4) (by omega)
        have hx0 := L.word_rng _ (Fi.drop_byt hR.rng (Fi.used rs)) 0
        have hdd2 : (rs.drop (Fi.used rs)).drop 4 = rs.drop (Fi.used rs + 4) := by rw [List.drop_drop]
        have hdl2 := hR.dropped (Fi.used rs + 4) (by omega)
        rw [hdd2] at hX
        have hdle := hR.le
        generalize Fi.used rs = u at *
        generalize strOfNums (L.tnX rs) = sx at *
        generalize rs.drop (u + 4) = r4 at *
        generalize rs.drop u = zs at *
        obtain ⟨R3, hR3⟩ : ∃ R : Option Addr, Fi.at B d u = R := ⟨_, rfl⟩
        rw [hR3] at hT
        have hud : (u : Int) ≤ d := by omega
        have hun : (u : Int) ≤ n := by omega
        have hud4 : (u : Int) + 4 ≤ d := by omega
        have hun4 : (u : Int) + 4 ≤ n := by omega
        obtain ⟨R4, hR4⟩ : ∃ R : Option Addr, Fi.at B d (u + 4) = R := ⟨_, rfl⟩
        rw [hR4] at hT4
        replace hV := Lib.hid hV
        have hBt2 := Lib.hid hBt
        replace hT := Lib.hid hT
        replace hT4 := Lib.hid hT4
        replace hX := Lib.hid hX
        replace hO := Lib.hid hO
        replace hEr := Lib.hid hEr
        clear s1 s3 hBt hR hdd2
        go_wp2_with (fail)
        clear g3
        refine (L.rtakeName_any hRr.out (by omega)).mono ?_; rintro e w6 ⟨rfl, hE⟩
        rw [hV.out]
        replace hEr := Lib.hid (hEr.out.trans (hE.mono hSr))
        have hB := hBt2.out.trans (hE.mono (Nat.le_trans hS hSr))
        replace hO := Lib.hid (hO.out.below hE)
        have hSr6 : w3.heap.size ≤ w6.heap.size := hEr.out.size
        clear hE hBt2 hGr hV
        have hT6 := Lib.hid (hT.out.below hB)
        clear hB hT
        go_wp2_with (first | (with_reducible refine want_do (o := ⟨some 87, _, _, _, _, _⟩) rfl (Fi.exec_tail (.tmp 85) (.tmp 86) rfl rfl rfl (l := u) (by omega) (by omega)) ?_) | fail)
        refine (L.rtake_any hT6.out (by omega) 1).mono ?_; rintro e w7 ⟨A7, k7, c7, rfl, hW7, hE⟩
        rw [TZ.out.1]
        rw [TZ.out.2] at hW7
        replace hEr := Lib.hid (hEr.out.trans (hE.mono hSr6))
        replace hO := Lib.hid (hO.out.below hE)
        clear hE hT6 TZ
        have hk7 : k7 = 1 := by rw [← hW7.len]; rfl
        subst hk7
        obtain ⟨b7, o7, rfl⟩ := hW7.place (by omega)
        obtain ⟨x, hx⟩ : ∃ x, L.word zs 0 = x := ⟨_, rfl⟩
        rw [hx] at hW7 hX hx0
        have hx1 := hx0.1
        have hx2 := hx0.2
        replace hx := Lib.hid hx
        have hqx : IntKind.i64.wrap x = x := by rw [IntKind.wrap_i64]; omega
        replace hW7 := Lib.hid hW7
        have hSr7 : w3.heap.size ≤ w7.heap.size := hEr.out.size
        go_wp2
        refine wpT.start (T := 9) (S := fun w' => Below w7.drew.heap.size w7.drew w') (by kernel_rfl) ?_
        have hHeld := Below.refl w7.drew.heap.size w7.drew
        have hOd := Lib.hid hO.out.drew
        have hEd := Lib.hid hEr.out.drew
        have hWd := Lib.hid hW7.out.drew
        clear hO hEr hW7
        generalize w7.drew = w8 at *
        refine wpT.take (i := 0) (oi := { dst := some 95, op := Op.fieldAddr 26 (Operand.tmp 10) 2, type := 0, pos := "ref.go:55", after := #[], guard := none }) (v := ?_) rfl (by kernel_rfl) (by kernel_rfl) (by kernel_rfl) (by kernel_rfl) (by kernel_rfl) (fun _ _ _ h => h) (Or.inl ⟨rfl, ?_⟩) hHeld ?_
        rotate_left
        · (intro wz hSw; go_simp; try with_reducible rfl)
        try simp only [Act.put, List.setIfInBounds_toArray, List.set_cons_zero, List.set_cons_succ]
        refine wpT.take (i := 1) (oi := { dst := some 96, op := Op.load 24 (Operand.tmp 95), type := 24, pos := "ref.go:55", after := #[{ on := 0, ground := Ground.data }], guard := none }) (v := ?_) rfl (by kernel_rfl) (by kernel_rfl) (by kernel_rfl) (by kernel_rfl) (by kernel_rfl) (fun _ _ _ h => h) (Or.inl ⟨rfl, ?_⟩) hHeld ?_
        rotate_left
        · (intro wz hSw; have o1 := (hOd.out.below hSw).hG.cell 2 (.slice C j f) rfl; go_simp; try with_reducible rfl)
        try simp only [Act.put, List.setIfInBounds_toArray, List.set_cons_zero, List.set_cons_succ]
        refine wpT.take (i := 2) (oi := { dst := some 97, op := Op.move (Operand.tmp 12), type := 9, pos := "ref.go:55", after := #[], guard := none }) (v := ?_) rfl (by kernel_rfl) (by kernel_rfl) (by kernel_rfl) (by kernel_rfl) (by kernel_rfl) (fun _ _ _ h => h) (Or.inl ⟨rfl, ?_⟩) hHeld ?_
        rotate_left
        · (intro wz hSw; go_simp; try with_reducible rfl)
        try simp only [Act.put, List.setIfInBounds_toArray, List.set_cons_zero, List.set_cons_succ]
        refine wpT.take (i := 3) (oi := { dst := some 98, op := Op.move (Operand.tmp 15), type := 22, pos := "ref.go:55", after := #[], guard := none }) (v := ?_) rfl (by kernel_rfl) (by kernel_rfl) (by kernel_rfl) (by kernel_rfl) (by kernel_rfl) (fun _ _ _ h => h) (Or.inl ⟨rfl, ?_⟩) hHeld ?_
        rotate_left
        · (intro wz hSw; go_simp; try with_reducible rfl)
        try simp only [Act.put, List.setIfInBounds_toArray, List.set_cons_zero, List.set_cons_succ]
        refine wpT.take (i := 4) (oi := { dst := some 99, op := Op.indexAddr 22 (Operand.tmp 98) (Operand.const (Value.int IntKind.i64 0)), type := 0, pos := "ref.go:55", after := #[{ on := 3, ground := Ground.data }], guard := none }) (v := ?_) rfl (by kernel_rfl) (by kernel_rfl) (by kernel_rfl) (by kernel_rfl) (by kernel_rfl) (fun _ _ _ h => h) (Or.inl ⟨rfl, ?_⟩) hHeld ?_
        rotate_left
        · (intro wz hSw; go_simp; try with_reducible rfl)
        try simp only [Act.put, List.setIfInBounds_toArray, List.set_cons_zero, List.set_cons_succ]
        refine wpT.take (i := 5) (oi := { dst := some 100, op := Op.load 45 (Operand.tmp 99), type := 45, pos := "ref.go:55", after := #[{ on := 4, ground := Ground.data }], guard := none }) (v := ?_) rfl (by kernel_rfl) (by kernel_rfl) (by kernel_rfl) (by kernel_rfl) (by kernel_rfl) (fun _ _ _ h => h) (Or.inl ⟨rfl, ?_⟩) hHeld ?_
        rotate_left
        · (intro wz hSw; have g1 := (hWd.out.below hSw).cellAt 0 x rfl; rw [Nat.add_zero] at g1; go_simp; try with_reducible rfl)
        try simp only [Act.put, List.setIfInBounds_toArray, List.set_cons_zero, List.set_cons_succ]
        refine wpT.take (i := 6) (oi := { dst := some 101, op := Op.convert 45 3 (Operand.tmp 100), type := 3, pos := "ref.go:55", after := #[{ on := 5, ground := Ground.data }], guard := none }) (v := ?_) rfl (by kernel_rfl) (by kernel_rfl) (by kernel_rfl) (by kernel_rfl) (by kernel_rfl) (fun _ _ _ h => h) (Or.inl ⟨rfl, ?_⟩) hHeld ?_
        rotate_left
        · (intro wz hSw; go_simp; (try simp only [hqx]); try with_reducible rfl)
        try simp only [Act.put, List.setIfInBounds_toArray, List.set_cons_zero, List.set_cons_succ]
        refine wpT.take (i := 7) (oi := { dst := some 102, op := Op.build 52 #[(0, Operand.tmp 97), (1, Operand.tmp 101)], type := 52, pos := "ref.go:55", after := #[{ on := 2, ground := Ground.data }, { on := 6, ground := Ground.data }], guard := none }) (v := ?_) rfl (by kernel_rfl) (by kernel_rfl) (by kernel_rfl) (by kernel_rfl) (by kernel_rfl) (fun _ _ _ h => h) (Or.inl ⟨rfl, ?_⟩) hHeld ?_
        rotate_left
        · (intro wz hSw; go_simp; try with_reducible rfl)
        try simp only [Act.put, List.setIfInBounds_toArray, List.set_cons_zero, List.set_cons_succ]
        refine wpT.one (i := 8) (o := { dst := some 103, op := Op.buildSlice 24 1 #[(0, Operand.tmp 102)], type := 24, pos := "ref.go:55", after := #[{ on := 7, ground := Ground.data }], guard := none }) rfl (by kernel_rfl) (fun K hK => ?_)
        go_simp
        have hE := ((Kept.refl w8).alloc #[.string sx, .int .i64 x] 52).below
        have hY9 := Lib.hid (Sy.one (Has.new #[.string sx, .int .i64 x] 52 w8))
        have hO4 := Lib.hid (hOd.out.below hE)
        have hE4 := Lib.hid (hEd.out.trans (hE.mono hEd.out.size))
        generalize w8.alloc (.cells #[.string sx, .int .i64 x] 52) = w9 at *
        clear hHeld
        refine hK.out _ _ hE (fun hHeld => ?_)
        clear hK K hE
        try simp only [Act.put, List.setIfInBounds_toArray, List.set_cons_zero, List.set_cons_succ]
        refine wpT.late (i := 9) (o := { dst := some 104, op := Op.call { callee := Callee.builtin Builtin.append, args := #[Operand.tmp 96, Operand.tmp 103], argTypes := #[24, 24] }, type := 24, pos := "ref.go:55", after := #[{ on := 1, ground := Ground.data }, { on := 8, ground := Ground.data }], guard := none }) (by omega) rfl (by kernel_rfl) (fun K hK => ?_)
        have hsT := hO4.out.low
        refine append_syK3 Try.underlying24 Ob.info39 rfl (by omega) (.tmp 96) (.tmp 103) rfl w3.heap.size C j f ys rfl hO4.out.hY _ 1 1 [(sx, x)] rfl hY9.out (by omega) (by omega) hsT ?_
        intro g' cap' w10 hO8 hG8
        have hGG := hO4.out.hG.grown hG8 (hO4.out.hY.ne hO4.out.hG (by decide))
        have f0 := hGG.cell 2 (.slice C j f) rfl
        have f1 := hGG.free 2
        have hO5 := Lib.hid (hO4.out.grow2 hG8 hO8)
        have hE5 := Lib.hid ((hE4.out.grown hG8 hsT hO4.out.hY.from).setCell (p := ⟨w3.heap.size, 2, none⟩) (Nat.le_refl _) (.slice (some ⟨g', 0, none⟩) (j + 1) cap'))
        clear hO8 hG8 hGG hY9 hsT hO4 hE4 hHeld
        refine hK.out _ _ ?_
        clear hK K
        try simp only [Act.put, List.setIfInBounds_toArray, List.set_cons_zero, List.set_cons_succ]
        refine wpT.late (i := 10) (o := { dst := some 105, op := Op.fieldAddr 26 (Operand.tmp 10) 2, type := 0, pos := "ref.go:55", after := #[{ on := 0, ground := Ground.phase }, { on := 1, ground := Ground.phase }, { on := 2, ground := Ground.phase }, { on := 3, ground := Ground.phase }, { on := 4, ground := Ground.phase }, { on := 5, ground := Ground.phase }, { on := 6, ground := Ground.phase }, { on := 7, ground := Ground.phase }, { on := 8, ground := Ground.phase }, { on := 9, ground := Ground.phase }], guard := none }) (by omega) rfl (by kernel_rfl) (fun K hK => ?_)
        go_simp
        refine hK.out _ _ ?_
        clear hK K
        try simp only [Act.put, List.setIfInBounds_toArray, List.set_cons_zero, List.set_cons_succ]
        refine wpT.late (i := 11) (o := { dst := none, op := Op.store 24 (Operand.tmp 105) (Operand.tmp 104), type := 0, pos := "ref.go:55", after := #[{ on := 10, ground := Ground.data }, { on := 9, ground := Ground.data }, { on := 9, ground := Ground.chain }, { on := 0, ground := Ground.phase }, { on := 1, ground := Ground.phase }, { on := 2, ground := Ground.phase }, { on := 3, ground := Ground.phase }, { on := 4, ground := Ground.phase }, { on := 5, ground := Ground.phase }, { on := 6, ground := Ground.phase }, { on := 7, ground := Ground.phase }, { on := 8, ground := Ground.phase }, { on := 9, ground := Ground.phase }], guard := none }) (by omega) rfl (by kernel_rfl) (fun K hK => ?_)
        go_simp
        refine hK.out _ _ ?_
        clear hK K
        try simp only [Act.put, List.setIfInBounds_toArray, List.set_cons_zero, List.set_cons_succ]
        refine wpT.done (by kernel_rfl) ?_ _
        clear hqx
        go_wp2_with (first | (with_reducible refine want_do (o := ⟨some 109, _, _, _, _, _⟩) rfl (Fi.exec_tail (.tmp 106) (.tmp 108) rfl rfl rfl (l := (u + 4)) (by omega) (by omega)) ?_) | fail)
        go_roundw
        case rel => exact ⟨j + 1, ys ++ [(sx, x)], r4, some ⟨g', 0, none⟩, cap', R4, d - (u + 4), n - (u + 4), by omega, by go_num, by simp [hyl], hdl2, by omega, rfl, hO5.out, hT4.out, hX.out, hE5.out⟩
        case measure => simp [intOf]; omega
    · have d2 : ¬ (j : Int) < n3 := by omega
      obtain rfl : j = n3 := by omega
      rw [Nat.sub_self, Fi.pre_zero] at hX
      replace hPp := Lib.hid (hPp.out _ _ hX)
      replace hPq := Lib.hid (hPq.out _ _ hX)
      rw [hrl] at hPp hPq
      clear hPe hX hR hRr
      by_cases c6 : 0 < n
      · have X1 := hXe.out.symm.trans (Fi.take_1 (hPq.out c6))
        subst X1
        have hB := Lib.hid hBt
        replace hG := hGr
        have c7 : (0 : Int) < n := by omega
        clear hXe hPp hPq hBt hEr hO hGr
        go_wp2_with (first
          | (with_reducible refine want_do (o := ⟨some 113, _, _, _, _, _⟩) rfl (Fi.exec26 rfl) ?_)
          | (with_reducible refine store_has (o := ⟨none, _, _, _, _, _⟩) rfl 26 (.tmp 2) (.tmp 113) rfl w.heap.size #[.slice none 0 0, .slice none 0 0, .slice none 0 0] rfl rfl hG.out (Ob.info26 _ _ _) rfl (Ob.oneS _ _ _ _ _ _ _ _ _) ?_)
          | fail)
        refine bodyPost_ret (results_has2 rfl w.heap.size rfl (hG.out.row _) Try.underlying26 rfl (Ob.info26 _ _ _)) rfl ?_
        exact Fi.takeR_err rfl (Bel.setRow hB.out (Nat.le_refl _) _)
      · have c7 : ¬ (0 : Int) < n := by omega
        have hp := hPp.out c6
        obtain ⟨p1, p2, p3, p4, p5⟩ := Fi.parts_taken hbr.out hp
        have hsz : ∀ y ∈ ys, y.1.size ≤ 1000000 := fun y hy => by have := (p4 y hy).2; omega
        replace hsz := Lib.hid hsz
        replace p5 := Lib.hid p5
        replace hp := Lib.hid hp
        have hPr := hP.out.below hEr
        rw [hk4] at hPr
        have g2 := (hW.out.below hEr).cellAt 2 x2 rfl
        replace hPr := Lib.hid hPr
        have hB := Lib.hid hBt
        replace hO := Lib.hid hO
        replace hG := hGr
        have hx1 := hr2.1
        have hx2 := hr2.2
        have hSt : w.heap.size ≤ wr.heap.size := Nat.le_trans hS hSr
        subst hk4
        clear p3 p4 hPp hPq hGr hBt hEr hW
        go_wp2_with (fail)
        clear g2 g3
        refine (Ch.runpack_any hPr.out (by omega) x2).mono ?_; rintro e w6 ⟨A2, n2, c2, A3, m3, c3', rfl, hU, hV, hE⟩
        replace hB := Lib.hid (hB.out.trans (hE.mono hSt))
        replace hG := Lib.hid (hG.out.below hE)
        replace hO := hO.out.below hE
        replace hU := hU.lower hSr
        replace hV := hV.lower hSr
        clear hE hPr
        cases hR : Ch.R P x2 with
        | none =>
          have X1 := hXe.out.symm.trans (Fi.take_2 hp.out hR)
          subst X1
          rw [show Ch.uE none = 10 from rfl]
          clear hU hV hO hXe hp
          go_wp2_with (first
            | (with_reducible refine want_do (o := ⟨some 126, _, _, _, _, _⟩) rfl (Fi.exec26 rfl) ?_)
            | (with_reducible refine store_has (o := ⟨none, _, _, _, _, _⟩) rfl 26 (.tmp 2) (.tmp 126) rfl w.heap.size #[.slice none 0 0, .slice none 0 0, .slice none 0 0] rfl rfl hG.out (Ob.info26 _ _ _) rfl (Ob.oneS _ _ _ _ _ _ _ _ _) ?_)
            | fail)
          refine bodyPost_ret (results_has2 rfl w.heap.size rfl (hG.out.row _) Try.underlying26 rfl (Ob.info26 _ _ _)) rfl ?_
          exact Fi.takeR_err rfl (Bel.setRow hB.out (Nat.le_refl _) _)
        | some dd =>
          have T3 := Lib.hid (fun q => hXe.out.symm.trans (Fi.take_3 hp.out hR q))
          have T4 := Lib.hid (fun q => hXe.out.symm.trans (Fi.take_4 hp.out hR q))
          rw [hR] at hU hV
          rw [show Ch.uE (some dd) = 0 from rfl]
          have hUr := Lib.hid (Ch.uW_rng p5.out (some dd))
          generalize Ch.uW P (some dd) = W' at *
          generalize Ch.uS (some dd) = S' at *
          have o0 := hO.hG.cell 0 (.slice none 0 0) rfl
          have o1 := hO.hG.cell 1 (.slice none 0 0) rfl
          have f0 := hO.hG.free 0
          have f1 := hO.hG.free 1
          have hV1 := hV.other hO.hG (by decide) 0 (.slice A2 n2 c2)
          have hO1 := hO.row0 hU
          have hO2 := Lib.hid (hO1.row1 hV1)
          have hB2 := Lib.hid ((hB.out.setCell (p := ⟨w3.heap.size, 0, none⟩) hS (.slice A2 n2 c2)).setCell (p := ⟨w3.heap.size, 1, none⟩) hS (.slice A3 m3 c3'))
          have hG2 := Lib.hid ((hG.out.other (p := ⟨w3.heap.size, 0, none⟩) (by show w.heap.size ≠ w3.heap.size; omega) (.slice A2 n2 c2)).other (p := ⟨w3.heap.size, 1, none⟩) (by show w.heap.size ≠ w3.heap.size; omega) (.slice A3 m3 c3'))
          clear hXe hp hR hU hV hB hG hO hV1 hO1
          go_wp2_with (first
            | (with_reducible refine load_has (o := ⟨some 132, _, _, _, _, _⟩) rfl 26 (.tmp 10) rfl w3.heap.size rfl hO2.out.hG Try.underlying26 rfl (Ob.info26 _ _ _) ?_)
            | fail)
          clear o0 o1 f0 f1
          generalize (w6.setCell ⟨w3.heap.size, 0, none⟩ (.slice A2 n2 c2)).setCell ⟨w3.heap.size, 1, none⟩ (.slice A3 m3 c3') = w7 at *
          have hS7 := hB2.out.size
          refine (Ob.rmay_any (hO2.out.wo hUr.out) hO2.out.in hO2.out.sy hsz.out).mono ?_; rintro e w8 ⟨rfl, hE⟩
          have hB := Lib.hid (hB2.out.trans (hE.mono hS7))
          replace hG := Lib.hid (hG2.out.below hE)
          have hO := Lib.hid (hO2.out.below hE)
          clear hE hB2 hG2 hO2
          by_cases cm : Ob.may W' S' ys = 0
          · have X1 := T4.out cm
            subst X1
            rw [cm]
            clear T3 T4
            go_wp2_with (first
              | (with_reducible refine load_has (o := ⟨some 136, _, _, _, _, _⟩) rfl 26 (.tmp 10) rfl w3.heap.size rfl hO.out.hG Try.underlying26 rfl (Ob.info26 _ _ _) ?_)
              | (with_reducible refine store_has (o := ⟨none, _, _, _, _, _⟩) rfl 26 (.tmp 2) (.tmp 136) rfl w.heap.size #[.slice A2 n2 c2, .slice A3 m3 c3', .slice C j f] rfl rfl hG.out (Ob.info26 _ _ _) rfl (Ob.oneS _ _ _ _ _ _ _ _ _) ?_)
              | fail)
            refine bodyPost_ret (results_has2 rfl w.heap.size rfl (hG.out.row _) Try.underlying26 rfl (Ob.info26 _ _ _)) rfl ?_
            exact ⟨A2, n2, c2, A3, m3, c3', C, j, f, rfl, (hO.out.hP.otherRow hG.out (by decide) _).rg.rw hUr.out, (hO.out.hQ.otherRow hG.out (by decide) _).rg, (hO.out.hY.otherRow hG.out (by decide) _).sy, Bel.setRow hB.out (Nat.le_refl _) _⟩
          · have X1 := T3.out cm
            subst X1
            generalize Ob.may W' S' ys = z at *
            have z1 : (z == 0) = false := by simpa using cm
            have z2 : (z != 0) = true := by simpa using cm
            clear T3 T4 hO
            go_wp2_with (first
              | (with_reducible refine want_do (o := ⟨some 135, _, _, _, _, _⟩) rfl (Fi.exec26 rfl) ?_)
              | (with_reducible refine store_has (o := ⟨none, _, _, _, _, _⟩) rfl 26 (.tmp 2) (.tmp 135) rfl w.heap.size #[.slice none 0 0, .slice none 0 0, .slice none 0 0] rfl rfl hG.out (Ob.info26 _ _ _) rfl (Ob.oneS _ _ _ _ _ _ _ _ _) ?_)
              | fail)
            refine bodyPost_ret (results_has2 rfl w.heap.size rfl (hG.out.row _) Try.underlying26 rfl (Ob.info26 _ _ _)) rfl ?_
            exact Fi.takeR_err rfl (Bel.setRow hB.out (Nat.le_refl _) _)
end Go.Proofs.Ytmdknjfhdmigdaa
