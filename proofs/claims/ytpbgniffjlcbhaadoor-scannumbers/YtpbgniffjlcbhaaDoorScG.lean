/-
  ScanBlanks, walked.
-/
import Derived.Test.YtpbgniffjlcbhaaDoorScE
namespace Go.Proofs.YtpbgniffjlcbhaaDoor
open Go.RowKit
set_option linter.unusedVariables false
set_option linter.unusedSimpArgs false
set_option maxRecDepth 100000
def Bu.b16 : ByteArray := ⟨#[32, 32, 32, 32, 32, 32, 32, 32, 32, 32, 32, 32, 32, 32, 32, 32]⟩
theorem Bu.pad_bs (k : Nat) (h : k ≤ 16) : L.bs (Bu.b16.extract 0 k) = List.replicate k 32 := by
  rw [Sc.bs_extract, List.drop_zero, Nat.sub_zero, show L.bs Bu.b16 = List.replicate 16 32 from rfl, List.take_replicate, Nat.min_eq_left h]
theorem Bu.pad_size (k : Nat) (h : k ≤ 16) : (Bu.b16.extract 0 k).size = k := by
  rw [ByteArray.size_extract, show Bu.b16.size = 16 from rfl]; omega
theorem Bu.oneB {w : World} {g : Nat} {x : Int} {t : TypeId} (h : Has g #[.int .u8 x] t w) (h0 : 0 ≤ x) (h1 : x < 256) : By w (some ⟨g, 0, none⟩) 1 1 [x] :=
  ⟨rfl, Nat.le_refl _, by simp [maxLen], by simp, by simpa using ⟨h0, h1⟩, fun ad e j y hy => by
    cases e
    match j, hy with
    | 0, hy => simp at hy; subst hy; exact h.cell 0 _ rfl⟩
set_option maxHeartbeats 8000000 in
set_option maxRecDepth 100000 in
theorem walk_blanks (W : World) (s : ByteArray) (n c : Int) (hs : s.size ≤ maxLen) (hn0 : 0 ≤ n) (hn1 : n < 256) (c0 : 0 ≤ c) (c1 : c < 256) (hE : Sc.Errs W) :
    Calls Tryd.prog 6 #[.string s, .int .u8 n, .int .u8 c] W fun e w' => e = .returned (.bool true) ∧ Below W.heap.size W w' := by
  have z1 := Bu.cut_size s
  obtain ⟨K, hK⟩ : ∃ K : Nat, n % 16 = (K : Int) := Int.eq_ofNat_of_zero_le (Int.emod_nonneg _ (by decide))
  have hK16 : K ≤ 15 := by
    have := Int.emod_lt_of_pos n (show (0 : Int) < 16 by decide)
    omega
  have hKi : (K : Int) ≤ 16 := by omega
  have hK0 : (0 : Int) ≤ (K : Int) := by omega
  obtain ⟨P, hP⟩ : ∃ P, Bu.b16.extract 0 K = P := ⟨_, rfl⟩
  have bP := Bu.pad_bs K (by omega)
  have zP := Bu.pad_size K (by omega)
  rw [hP] at bP zP
  have l1 : Sc.line (L.bs (P ++ Bu.cut s)) = Sc.shift (K : Int) (Sc.line (L.bs (Bu.cut s))) := by rw [Bu.bs_app, bP]; exact Sc.ahead K _
  have l2 : Sc.line (L.bs (Bu.cut s ++ (⟨#[9]⟩ : ByteArray) ++ P)) = Sc.line (L.bs (Bu.cut s)) := by
    rw [Bu.bs_app, Bu.bs_app, bP, List.append_assoc, show L.bs ⟨#[9]⟩ = [9] from rfl]; exact Sc.behind K _
  have z2 : (P ++ Bu.cut s).size ≤ 116 := by rw [ByteArray.size_append]; omega
  have z3 : (Bu.cut s ++ (⟨#[9]⟩ : ByteArray) ++ P).size ≤ 117 := by rw [ByteArray.size_append, ByteArray.size_append, show (⟨#[9]⟩ : ByteArray).size = 1 from rfl]; omega
  have bc : L.bs (strOfNums [c]) = [c] := L.bs_str _ (by simp; omega)
  have zc : (strOfNums [c]).size = 1 := by rw [strOfNums_size]; rfl
  obtain ⟨C, hC⟩ : ∃ C, strOfNums [c] = C := ⟨_, rfl⟩
  rw [hC] at bc zc
  have l4 : Sc.odd c = true → Sc.line (L.bs (C ++ (⟨#[32]⟩ : ByteArray) ++ Bu.cut s)) = .error 20 := fun h => by
    rw [Bu.bs_app, Bu.bs_app, bc, List.append_assoc]; exact Sc.line_odd h _
  have l5 : Sc.line (L.bs ((⟨#[59, 32]⟩ : ByteArray) ++ C ++ Bu.cut s)) = .ok [] := by
    rw [Bu.bs_app, Bu.bs_app, List.append_assoc, show L.bs ⟨#[59, 32]⟩ = [59, 32] from rfl]; exact Sc.run_semi _ _
  have z4 : (C ++ (⟨#[32]⟩ : ByteArray) ++ Bu.cut s).size ≤ 102 := by rw [ByteArray.size_append, ByteArray.size_append, zc, show (⟨#[32]⟩ : ByteArray).size = 1 from rfl]; omega
  have z5 : ((⟨#[59, 32]⟩ : ByteArray) ++ C ++ Bu.cut s).size ≤ 103 := by rw [ByteArray.size_append, ByteArray.size_append, zc, show (⟨#[59, 32]⟩ : ByteArray).size = 2 from rfl]; omega
  obtain ⟨Z1, hZ1⟩ : ∃ Z, P ++ Bu.cut s = Z := ⟨_, rfl⟩
  obtain ⟨Z2, hZ2⟩ : ∃ Z, Bu.cut s ++ (⟨#[9]⟩ : ByteArray) ++ P = Z := ⟨_, rfl⟩
  obtain ⟨Z4, hZ4⟩ : ∃ Z, C ++ (⟨#[32]⟩ : ByteArray) ++ Bu.cut s = Z := ⟨_, rfl⟩
  obtain ⟨Z5, hZ5⟩ : ∃ Z, (⟨#[59, 32]⟩ : ByteArray) ++ C ++ Bu.cut s = Z := ⟨_, rfl⟩
  rw [hZ1] at l1 z2
  rw [hZ2] at l2 z3
  rw [hZ4] at l4 z4
  rw [hZ5] at l5 z5
  replace hZ1 := Lib.hid hZ1
  replace hZ2 := Lib.hid hZ2
  replace hZ4 := Lib.hid hZ4
  replace hZ5 := Lib.hid hZ5
  replace hP := Lib.hid (show (⟨#[32, 32, 32, 32, 32, 32, 32, 32, 32, 32, 32, 32, 32, 32, 32, 32]⟩ : ByteArray).extract 0 K = P from hP)
  replace l1 := Lib.hid l1
  replace l2 := Lib.hid l2
  replace l4 := Lib.hid l4
  replace l5 := Lib.hid l5
  replace hC := Lib.hid hC
  replace hK := Lib.hid hK
  clear bP bc
  obtain ⟨R, hR0⟩ : ∃ R, Sc.line (L.bs (Bu.cut s)) = R := ⟨_, rfl⟩
  rw [hR0] at l1 l2
  go_enter Tryd.func6, Tryd.ntmps6
  go_wp2_with (fail)
  refine (Bu.shown_any W hE).mono ?_; rintro e' w1 ⟨rfl, hB⟩
  have hE1 := Lib.hid (hE.below hB)
  replace hB := Lib.hid hB
  go_wp2_with (fail)
  refine (Bu.few_any s hs _).mono ?_; rintro e' w2 ⟨rfl, rfl⟩
  go_upto_region 4 with (fail)
  rw [hK.out]
  go_upto_region 5 with (fail)
  rw [hP.out]
  go_wp2_with (fail)
  refine (Sc.line_any (Bu.cut s) (by omega) w1 hE1.out).mono ?_; rintro e' w2 ⟨v, rfl, hR, hB2⟩
  rw [hR0] at hR
  replace hE1 := Lib.hid (hE1.out.below hB2)
  replace hB := Lib.hid (hB.out.trans (hB2.mono hB.out.size))
  clear hB2 hE hs hP hK
  cases R with
  | error x =>
    obtain rfl := Bu.errR hR
    replace l1 := Lib.hid (show Sc.line (L.bs Z1) = .error x from l1.out)
    clear hR hR0
    go_wp2_with (fail)
    rw [hZ1.out]
    refine (Sc.line_any Z1 (by omega) w2 hE1.out).mono ?_; rintro e' w3 ⟨v, rfl, hR, hB2⟩
    rw [l1.out] at hR
    obtain rfl := Bu.errR hR
    replace hE1 := Lib.hid (hE1.out.below hB2)
    replace hB := Lib.hid (hB.out.trans (hB2.mono hB.out.size))
    clear hR hB2 l1 z2
    go_wp2_with (fail)
    rw [hZ2.out]
    refine (Sc.line_any Z2 (by omega) w3 hE1.out).mono ?_; rintro e' wr ⟨v, rfl, hR, hB2⟩
    rw [l2.out] at hR
    obtain rfl := Bu.errR hR
    replace hE1 := Lib.hid (hE1.out.below hB2)
    replace hB := Lib.hid (hB.out.trans (hB2.mono hB.out.size))
    clear hR hB2 l2 z3
    go_wp2
    go_loopw [17] (fun i wz => i = .int .i64 0 ∧ wr = wz) (fun i _ => 0)
    case atStart => exact ⟨rfl, rfl⟩
    case round =>
      obtain ⟨rfl, rfl⟩ := hrel
      have hL := Lib.hid (Tr.empty wr)
      have hM := Lib.hid (Tr.empty wr)
      have hO := Lib.hid (Tr.empty wr)
      have bl := Lib.hid (show ∀ y ∈ ([] : List Sc.Tk), L.Byt y.t by simp)
      go_upto_region 12 with (fail)
      obtain ⟨q, hq⟩ : ∃ q, Hid (q = Sc.odd c) := ⟨_, Lib.hid rfl⟩
      go_cut [18] from 68 to 101 (fun v wx => v = .bool q ∧ wx = wr)
      case first =>
        rcases (show c < 9 ∨ c = 9 ∨ (9 < c ∧ c < 32) ∨ (126 < c) ∨ c = 33 ∨ c = 47 ∨ c = 60 ∨ c = 91 ∨ c = 39 ∨ (9 < c ∧ ¬ c < 32 ∧ ¬ 126 < c ∧ c ≠ 33 ∧ c ≠ 47 ∧ c ≠ 60 ∧ c ≠ 91 ∧ c ≠ 39) by omega) with h | rfl | ⟨h, h'⟩ | h | rfl | rfl | rfl | rfl | rfl | ⟨h1, h2, h3, e1, e2, e3, e4, e5⟩
        case inr.inr.inr.inl =>
          have g1 : ¬ c < 9 := by omega
          have g2 : 9 < c := by omega
          have g3 : ¬ c < 32 := by omega
          go_wp2
          go_meet
          case rel => exact ⟨congrArg Value.bool (show _ = q by rw [hq.out]; unfold Sc.odd; rw [Bool.eq_iff_iff]; simp; try omega), rfl⟩
        case inr.inr.inr.inr.inr.inr.inr.inr.inr =>
          have g1 : ¬ c < 9 := by omega
          have f1 : (c == 33) = false := by simpa using e1
          have f2 : (c == 47) = false := by simpa using e2
          have f3 : (c == 60) = false := by simpa using e3
          have f4 : (c == 91) = false := by simpa using e4
          have f5 : (c == 39) = false := by simpa using e5
          go_wp2
          go_meet
          case rel => exact ⟨congrArg Value.bool (show _ = q by rw [hq.out]; unfold Sc.odd; rw [Bool.eq_iff_iff]; simp; try omega), rfl⟩
        all_goals
          go_wp2
          go_meet
          case rel => exact ⟨congrArg Value.bool (show _ = q by rw [hq.out]; unfold Sc.odd; rw [Bool.eq_iff_iff]; simp; try omega), rfl⟩
      case rest =>
        obtain ⟨rfl, rfl⟩ := hcut
        cases q with
        | true =>
          have hY0 := Lib.hid (Bu.oneB (Has.new #[.int .u8 c] 5 wc) c0 c1)
          have hA := ((Kept.refl wc).alloc #[.int .u8 c] 5).below
          replace hL := Lib.hid (hL.out.below hA)
          replace hM := Lib.hid (hM.out.below hA)
          replace hO := Lib.hid (hO.out.below hA)
          replace hE1 := Lib.hid (hE1.out.below hA)
          replace hB := Lib.hid (hB.out.trans (hA.mono hB.out.size))
          clear hA
          go_wp2_with (first | (with_reducible refine want_do (o := ⟨some 105, _, _, _, _, _⟩) rfl (exec_text Tryd.underlying37 Tryd.underlying5 Tryd.underlying9 (.tmp 104) rfl rfl hY0.out) ?_; rw [hC.out]) | fail)
          rw [hZ4.out]
          clear hY0
          generalize wc.alloc (.cells #[.int .u8 c] 5) = w5 at *
          refine (Sc.line_any Z4 (by omega) w5 hE1.out).mono ?_; rintro e' w6 ⟨v, rfl, hR, hB2⟩
          rw [l4.out hq.out.symm] at hR
          obtain rfl := Bu.errR hR
          replace hL := Lib.hid (hL.out.below hB2)
          replace hM := Lib.hid (hM.out.below hB2)
          replace hO := Lib.hid (hO.out.below hB2)
          replace hE1 := Lib.hid (hE1.out.below hB2)
          replace hB := Lib.hid (hB.out.trans (hB2.mono hB.out.size))
          clear hR hB2 l4 hq hZ4 z4
          have hY0 := Lib.hid (Bu.oneB (Has.new #[.int .u8 c] 5 w6) c0 c1)
          have hA := ((Kept.refl w6).alloc #[.int .u8 c] 5).below
          replace hL := Lib.hid (hL.out.below hA)
          replace hM := Lib.hid (hM.out.below hA)
          replace hO := Lib.hid (hO.out.below hA)
          replace hE1 := Lib.hid (hE1.out.below hA)
          replace hB := Lib.hid (hB.out.trans (hA.mono hB.out.size))
          clear hA
          go_wp2_with (first | (with_reducible refine want_do (o := ⟨some 115, _, _, _, _, _⟩) rfl (exec_text Tryd.underlying37 Tryd.underlying5 Tryd.underlying9 (.tmp 114) rfl rfl hY0.out) ?_; rw [hC.out]) | fail)
          rw [hZ5.out]
          clear hY0
          generalize w6.alloc (.cells #[.int .u8 c] 5) = w7 at *
          refine (Sc.line_any Z5 (by omega) w7 hE1.out).mono ?_; rintro e' w8 ⟨v, rfl, hR, hB2⟩
          rw [l5.out] at hR
          obtain ⟨A8, c8, rfl, _⟩ := Bu.okR hR
          replace hL := Lib.hid (hL.out.below hB2)
          replace hM := Lib.hid (hM.out.below hB2)
          replace hO := Lib.hid (hO.out.below hB2)
          replace hE1 := Lib.hid (hE1.out.below hB2)
          replace hB := Lib.hid (hB.out.trans (hB2.mono hB.out.size))
          clear hR hB2 hE1
          go_wp2_with (fail)
          refine (Bu.same_any hL.out hM.out bl.out bl.out).mono ?_; rintro e' w9 ⟨rfl, hB2⟩
          rw [decide_eq_true rfl]
          replace hL := Lib.hid (hL.out.below hB2)
          replace hO := Lib.hid (hO.out.below hB2)
          replace hB := Lib.hid (hB.out.trans (hB2.mono hB.out.size))
          clear hB2 hM
          go_wp2_with (fail)
          refine (Bu.same_any hL.out hO.out bl.out bl.out).mono ?_; rintro e' w10 ⟨rfl, hB2⟩
          rw [decide_eq_true rfl]
          replace hB := Lib.hid (hB.out.trans (hB2.mono hB.out.size))
          clear hB2 hO hL
          go_wp2
          go_ret
          exact ⟨rfl, hB.out⟩
        | false =>
          have hY0 := Lib.hid (Bu.oneB (Has.new #[.int .u8 c] 5 wc) c0 c1)
          have hA := ((Kept.refl wc).alloc #[.int .u8 c] 5).below
          replace hL := Lib.hid (hL.out.below hA)
          replace hM := Lib.hid (hM.out.below hA)
          replace hO := Lib.hid (hO.out.below hA)
          replace hE1 := Lib.hid (hE1.out.below hA)
          replace hB := Lib.hid (hB.out.trans (hA.mono hB.out.size))
          clear hA
          go_wp2_with (first | (with_reducible refine want_do (o := ⟨some 105, _, _, _, _, _⟩) rfl (exec_text Tryd.underlying37 Tryd.underlying5 Tryd.underlying9 (.tmp 104) rfl rfl hY0.out) ?_; rw [hC.out]) | fail)
          rw [hZ4.out]
          clear hY0
          generalize wc.alloc (.cells #[.int .u8 c] 5) = w5 at *
          refine (Sc.line_any Z4 (by omega) w5 hE1.out).mono ?_; rintro e' w6 ⟨v, rfl, hR, hB2⟩
          obtain ⟨A9, n9, c9, x9, rfl⟩ := Bu.anyR hR
          replace hL := Lib.hid (hL.out.below hB2)
          replace hM := Lib.hid (hM.out.below hB2)
          replace hO := Lib.hid (hO.out.below hB2)
          replace hE1 := Lib.hid (hE1.out.below hB2)
          replace hB := Lib.hid (hB.out.trans (hB2.mono hB.out.size))
          clear hR hB2 l4 hq hZ4 z4
          have hY0 := Lib.hid (Bu.oneB (Has.new #[.int .u8 c] 5 w6) c0 c1)
          have hA := ((Kept.refl w6).alloc #[.int .u8 c] 5).below
          replace hL := Lib.hid (hL.out.below hA)
          replace hM := Lib.hid (hM.out.below hA)
          replace hO := Lib.hid (hO.out.below hA)
          replace hE1 := Lib.hid (hE1.out.below hA)
          replace hB := Lib.hid (hB.out.trans (hA.mono hB.out.size))
          clear hA
          go_wp2_with (first | (with_reducible refine want_do (o := ⟨some 115, _, _, _, _, _⟩) rfl (exec_text Tryd.underlying37 Tryd.underlying5 Tryd.underlying9 (.tmp 114) rfl rfl hY0.out) ?_; rw [hC.out]) | fail)
          rw [hZ5.out]
          clear hY0
          generalize w6.alloc (.cells #[.int .u8 c] 5) = w7 at *
          refine (Sc.line_any Z5 (by omega) w7 hE1.out).mono ?_; rintro e' w8 ⟨v, rfl, hR, hB2⟩
          rw [l5.out] at hR
          obtain ⟨A8, c8, rfl, _⟩ := Bu.okR hR
          replace hL := Lib.hid (hL.out.below hB2)
          replace hM := Lib.hid (hM.out.below hB2)
          replace hO := Lib.hid (hO.out.below hB2)
          replace hE1 := Lib.hid (hE1.out.below hB2)
          replace hB := Lib.hid (hB.out.trans (hB2.mono hB.out.size))
          clear hR hB2 hE1
          go_wp2_with (fail)
          refine (Bu.same_any hL.out hM.out bl.out bl.out).mono ?_; rintro e' w9 ⟨rfl, hB2⟩
          rw [decide_eq_true rfl]
          replace hL := Lib.hid (hL.out.below hB2)
          replace hO := Lib.hid (hO.out.below hB2)
          replace hB := Lib.hid (hB.out.trans (hB2.mono hB.out.size))
          clear hB2 hM
          go_wp2_with (fail)
          refine (Bu.same_any hL.out hO.out bl.out bl.out).mono ?_; rintro e' w10 ⟨rfl, hB2⟩
          rw [decide_eq_true rfl]
          replace hB := Lib.hid (hB.out.trans (hB2.mono hB.out.size))
          clear hB2 hO hL
          go_wp2
          go_ret
          exact ⟨rfl, hB.out⟩
  | ok l =>
    have bl : ∀ y ∈ l, L.Byt y.t := fun y hy => Sc.ok_byt (Sc.line_ok hR0 y hy)
    have nl := (Sc.line_len hR0).1
    have pl := Sc.line_pos hR0
    rw [L.bs_len] at nl pl
    replace l1 := Lib.hid (show Sc.line (L.bs Z1) = .ok (l.map (Sc.mv (K : Int))) from l1.out)
    obtain ⟨A1, c1', rfl, hO1⟩ := Bu.okR hR
    obtain ⟨n1, hn1'⟩ : ∃ n1, l.length = n1 := ⟨_, rfl⟩
    rw [hn1'] at hO1 nl ⊢
    have hL := Lib.hid hO1.tr
    have hE2 := hE1
    clear hR hR0 hO1
    go_wp2_with (fail)
    rw [hZ1.out]
    refine (Sc.line_any Z1 (by omega) w2 hE1.out).mono ?_; rintro e' w3 ⟨v, rfl, hR, hB2⟩
    rw [l1.out] at hR
    obtain ⟨A2, c2, rfl, hO2⟩ := Bu.okR hR
    rw [List.length_map, hn1'] at hO2 ⊢
    have hlt := Lib.hid hO2.ltAll
    replace hO2 := Lib.hid hO2
    replace hE1 := Lib.hid (hE1.out.below hB2)
    have hF := Lib.hid hB2
    clear hR hB2 l1 z2
    go_wp2_with (fail)
    rw [hZ2.out]
    refine (Sc.line_any Z2 (by omega) w3 hE1.out).mono ?_; rintro e' w4 ⟨v, rfl, hR, hB2⟩
    rw [l2.out] at hR
    obtain ⟨A3, c3, rfl, hO3⟩ := Bu.okR hR
    rw [hn1'] at hO3 ⊢
    replace hO2 := Lib.hid (hO2.out.below hB2)
    replace hO3 := Lib.hid hO3
    replace hE1 := Lib.hid (hE1.out.below hB2)
    replace hF := Lib.hid (hF.out.trans (hB2.mono hF.out.size))
    clear hR hB2 l2 z3 hE1
    have pm := Lib.hid (fun j (hj : j < n1) => pl _ (Sc.tk_mem (ys := l) (k := j) (by omega)))
    replace bl := Lib.hid bl
    have hlm : (l.map (Sc.mv (K : Int))).length = n1 := by rw [List.length_map, hn1']
    have nn : (n1 : Int) ≤ 100 := by omega
    clear pl
    go_wp2
    go_loopw [17] (fun i wz => ∃ j : Nat, j ≤ n1 ∧ i = .int .i64 (j : Int) ∧ Below w2.heap.size w2 wz ∧ Oz 34 w2.heap.size A2 n1 c2 (Sc.half (-(K : Int)) (l.map (Sc.mv (K : Int))) j) wz ∧ Oz 34 w3.heap.size A3 n1 c3 l wz) (fun i _ => n1 - (intOf i).toNat)
    case atStart => exact ⟨0, Nat.zero_le _, rfl, hF.out, hO2.out, hO3.out⟩
    case round =>
      rename_i wr _
      obtain ⟨j, hj, rfl, hG, hM, hO⟩ := hrel
      clear hO2 hO3 hF
      have hj0 : (0 : Int) ≤ (j : Int) := by omega
      by_cases hjn : j < n1
      · have c1' : (j : Int) < (n1 : Int) := by omega
        obtain ⟨g, rfl⟩ : ∃ g, A2 = some ⟨g, 0, Option.none⟩ := by
          rcases hM.cases with ⟨_, q, _⟩ | ⟨g, q, _⟩
          · omega
          · exact ⟨g, q⟩
        obtain ⟨_, g1, _, _⟩ := hM.tr.four j hjn
        have hge := hM.has.1
        have hgl := hlt.out g rfl
        have f1 := hM.free (j * 4 + 1)
        have hp := pm.out j hjn
        have htk : Sc.tk (l.map (Sc.mv (K : Int))) j = Sc.mv (K : Int) (Sc.tk l j) := by
          have h1 := Sc.tk_get (ys := l.map (Sc.mv (K : Int))) (k := j) (by omega)
          rw [List.getElem?_map, Sc.tk_get (by omega)] at h1
          exact (Option.some.inj h1).symm
        rw [Sc.half_tk _ (by omega), htk] at g1
        have hS := Sc.half_set (-(K : Int)) ((Sc.tk l j).p + (K : Int) - (K : Int)) (xs := l.map (Sc.mv (K : Int))) (k := j) (by omega) (by rw [htk]; show _ = (Sc.tk l j).p + (K : Int) + -(K : Int); omega)
        have hM2 := hM.set j hjn ((Sc.tk l j).p + (K : Int) - (K : Int))
        rw [hS] at hM2
        simp only [Nat.zero_add] at g1
        replace g1 : wr.cell? ⟨g, j * 4 + 1, Option.none⟩ = some (.int .i64 ((Sc.tk l j).p + (K : Int))) := g1
        generalize (Sc.tk l j).p = p at *
        obtain ⟨p', hp'⟩ : ∃ p', p + (K : Int) = p' := ⟨_, rfl⟩
        rw [hp'] at g1 hM2
        have hp2 : 0 ≤ p' ∧ p' ≤ 200 := by omega
        replace hM2 := Lib.hid hM2
        have hO' := Lib.hid (hO.ahead hgl (j * 4 + 1) (.int .i64 (p' - (K : Int))))
        have hG' := Lib.hid (hG.setCell (p := ⟨g, j * 4 + 1, Option.none⟩) hge (.int .i64 (p' - (K : Int))))
        clear hM hO hG hS htk hp'
        go_wp2
        go_roundw
        case rel => exact ⟨j + 1, by omega, by go_num, hG'.out, hM2.out, hO'.out⟩
        case measure => simp [intOf]; omega
      · obtain rfl : j = n1 := by omega
        rw [Sc.half_all _ _ _ hlm, Sc.mv_mv] at hM
        replace hL := Lib.hid (hL.out.below hG)
        have hE1 := Lib.hid (hE2.out.below hG)
        replace hB := Lib.hid (hB.out.trans (hG.mono hB.out.size))
        replace hM := Lib.hid hM.tr
        replace hO := Lib.hid hO.tr
        clear hG hlt pm hE2
        go_upto_region 12 with (fail)
        obtain ⟨q, hq⟩ : ∃ q, Hid (q = Sc.odd c) := ⟨_, Lib.hid rfl⟩
        go_cut [18] from 68 to 101 (fun v wx => v = .bool q ∧ wx = wr)
        case first =>
          rcases (show c < 9 ∨ c = 9 ∨ (9 < c ∧ c < 32) ∨ (126 < c) ∨ c = 33 ∨ c = 47 ∨ c = 60 ∨ c = 91 ∨ c = 39 ∨ (9 < c ∧ ¬ c < 32 ∧ ¬ 126 < c ∧ c ≠ 33 ∧ c ≠ 47 ∧ c ≠ 60 ∧ c ≠ 91 ∧ c ≠ 39) by omega) with h | rfl | ⟨h, h'⟩ | h | rfl | rfl | rfl | rfl | rfl | ⟨h1, h2, h3, e1, e2, e3, e4, e5⟩
          case inr.inr.inr.inl =>
            have g1 : ¬ c < 9 := by omega
            have g2 : 9 < c := by omega
            have g3 : ¬ c < 32 := by omega
            go_wp2
            go_meet
            case rel => exact ⟨congrArg Value.bool (show _ = q by rw [hq.out]; unfold Sc.odd; rw [Bool.eq_iff_iff]; simp; try omega), rfl⟩
          case inr.inr.inr.inr.inr.inr.inr.inr.inr =>
            have g1 : ¬ c < 9 := by omega
            have f1 : (c == 33) = false := by simpa using e1
            have f2 : (c == 47) = false := by simpa using e2
            have f3 : (c == 60) = false := by simpa using e3
            have f4 : (c == 91) = false := by simpa using e4
            have f5 : (c == 39) = false := by simpa using e5
            go_wp2
            go_meet
            case rel => exact ⟨congrArg Value.bool (show _ = q by rw [hq.out]; unfold Sc.odd; rw [Bool.eq_iff_iff]; simp; try omega), rfl⟩
          all_goals
            go_wp2
            go_meet
            case rel => exact ⟨congrArg Value.bool (show _ = q by rw [hq.out]; unfold Sc.odd; rw [Bool.eq_iff_iff]; simp; try omega), rfl⟩
        case rest =>
          obtain ⟨rfl, rfl⟩ := hcut
          cases q with
          | true =>
            have hY0 := Lib.hid (Bu.oneB (Has.new #[.int .u8 c] 5 wc) c0 c1)
            have hA := ((Kept.refl wc).alloc #[.int .u8 c] 5).below
            replace hL := Lib.hid (hL.out.below hA)
            replace hM := Lib.hid (hM.out.below hA)
            replace hO := Lib.hid (hO.out.below hA)
            replace hE1 := Lib.hid (hE1.out.below hA)
            replace hB := Lib.hid (hB.out.trans (hA.mono hB.out.size))
            clear hA
            go_wp2_with (first | (with_reducible refine want_do (o := ⟨some 105, _, _, _, _, _⟩) rfl (exec_text Tryd.underlying37 Tryd.underlying5 Tryd.underlying9 (.tmp 104) rfl rfl hY0.out) ?_; rw [hC.out]) | fail)
            rw [hZ4.out]
            clear hY0
            generalize wc.alloc (.cells #[.int .u8 c] 5) = w5 at *
            refine (Sc.line_any Z4 (by omega) w5 hE1.out).mono ?_; rintro e' w6 ⟨v, rfl, hR, hB2⟩
            rw [l4.out hq.out.symm] at hR
            obtain rfl := Bu.errR hR
            replace hL := Lib.hid (hL.out.below hB2)
            replace hM := Lib.hid (hM.out.below hB2)
            replace hO := Lib.hid (hO.out.below hB2)
            replace hE1 := Lib.hid (hE1.out.below hB2)
            replace hB := Lib.hid (hB.out.trans (hB2.mono hB.out.size))
            clear hR hB2 l4 hq hZ4 z4
            have hY0 := Lib.hid (Bu.oneB (Has.new #[.int .u8 c] 5 w6) c0 c1)
            have hA := ((Kept.refl w6).alloc #[.int .u8 c] 5).below
            replace hL := Lib.hid (hL.out.below hA)
            replace hM := Lib.hid (hM.out.below hA)
            replace hO := Lib.hid (hO.out.below hA)
            replace hE1 := Lib.hid (hE1.out.below hA)
            replace hB := Lib.hid (hB.out.trans (hA.mono hB.out.size))
            clear hA
            go_wp2_with (first | (with_reducible refine want_do (o := ⟨some 115, _, _, _, _, _⟩) rfl (exec_text Tryd.underlying37 Tryd.underlying5 Tryd.underlying9 (.tmp 114) rfl rfl hY0.out) ?_; rw [hC.out]) | fail)
            rw [hZ5.out]
            clear hY0
            generalize w6.alloc (.cells #[.int .u8 c] 5) = w7 at *
            refine (Sc.line_any Z5 (by omega) w7 hE1.out).mono ?_; rintro e' w8 ⟨v, rfl, hR, hB2⟩
            rw [l5.out] at hR
            obtain ⟨A8, c8, rfl, _⟩ := Bu.okR hR
            replace hL := Lib.hid (hL.out.below hB2)
            replace hM := Lib.hid (hM.out.below hB2)
            replace hO := Lib.hid (hO.out.below hB2)
            replace hE1 := Lib.hid (hE1.out.below hB2)
            replace hB := Lib.hid (hB.out.trans (hB2.mono hB.out.size))
            clear hR hB2 hE1
            go_wp2_with (fail)
            refine (Bu.same_any hL.out hM.out bl.out bl.out).mono ?_; rintro e' w9 ⟨rfl, hB2⟩
            rw [decide_eq_true rfl]
            replace hL := Lib.hid (hL.out.below hB2)
            replace hO := Lib.hid (hO.out.below hB2)
            replace hB := Lib.hid (hB.out.trans (hB2.mono hB.out.size))
            clear hB2 hM
            go_wp2_with (fail)
            refine (Bu.same_any hL.out hO.out bl.out bl.out).mono ?_; rintro e' w10 ⟨rfl, hB2⟩
            rw [decide_eq_true rfl]
            replace hB := Lib.hid (hB.out.trans (hB2.mono hB.out.size))
            clear hB2 hO hL
            go_wp2
            go_ret
            exact ⟨rfl, hB.out⟩
          | false =>
            have hY0 := Lib.hid (Bu.oneB (Has.new #[.int .u8 c] 5 wc) c0 c1)
            have hA := ((Kept.refl wc).alloc #[.int .u8 c] 5).below
            replace hL := Lib.hid (hL.out.below hA)
            replace hM := Lib.hid (hM.out.below hA)
            replace hO := Lib.hid (hO.out.below hA)
            replace hE1 := Lib.hid (hE1.out.below hA)
            replace hB := Lib.hid (hB.out.trans (hA.mono hB.out.size))
            clear hA
            go_wp2_with (first | (with_reducible refine want_do (o := ⟨some 105, _, _, _, _, _⟩) rfl (exec_text Tryd.underlying37 Tryd.underlying5 Tryd.underlying9 (.tmp 104) rfl rfl hY0.out) ?_; rw [hC.out]) | fail)
            rw [hZ4.out]
            clear hY0
            generalize wc.alloc (.cells #[.int .u8 c] 5) = w5 at *
            refine (Sc.line_any Z4 (by omega) w5 hE1.out).mono ?_; rintro e' w6 ⟨v, rfl, hR, hB2⟩
            obtain ⟨A9, n9, c9, x9, rfl⟩ := Bu.anyR hR
            replace hL := Lib.hid (hL.out.below hB2)
            replace hM := Lib.hid (hM.out.below hB2)
            replace hO := Lib.hid (hO.out.below hB2)
            replace hE1 := Lib.hid (hE1.out.below hB2)
            replace hB := Lib.hid (hB.out.trans (hB2.mono hB.out.size))
            clear hR hB2 l4 hq hZ4 z4
            have hY0 := Lib.hid (Bu.oneB (Has.new #[.int .u8 c] 5 w6) c0 c1)
            have hA := ((Kept.refl w6).alloc #[.int .u8 c] 5).below
            replace hL := Lib.hid (hL.out.below hA)
            replace hM := Lib.hid (hM.out.below hA)
            replace hO := Lib.hid (hO.out.below hA)
            replace hE1 := Lib.hid (hE1.out.below hA)
            replace hB := Lib.hid (hB.out.trans (hA.mono hB.out.size))
            clear hA
            go_wp2_with (first | (with_reducible refine want_do (o := ⟨some 115, _, _, _, _, _⟩) rfl (exec_text Tryd.underlying37 Tryd.underlying5 Tryd.underlying9 (.tmp 114) rfl rfl hY0.out) ?_; rw [hC.out]) | fail)
            rw [hZ5.out]
            clear hY0
            generalize w6.alloc (.cells #[.int .u8 c] 5) = w7 at *
            refine (Sc.line_any Z5 (by omega) w7 hE1.out).mono ?_; rintro e' w8 ⟨v, rfl, hR, hB2⟩
            rw [l5.out] at hR
            obtain ⟨A8, c8, rfl, _⟩ := Bu.okR hR
            replace hL := Lib.hid (hL.out.below hB2)
            replace hM := Lib.hid (hM.out.below hB2)
            replace hO := Lib.hid (hO.out.below hB2)
            replace hE1 := Lib.hid (hE1.out.below hB2)
            replace hB := Lib.hid (hB.out.trans (hB2.mono hB.out.size))
            clear hR hB2 hE1
            go_wp2_with (fail)
            refine (Bu.same_any hL.out hM.out bl.out bl.out).mono ?_; rintro e' w9 ⟨rfl, hB2⟩
            rw [decide_eq_true rfl]
            replace hL := Lib.hid (hL.out.below hB2)
            replace hO := Lib.hid (hO.out.below hB2)
            replace hB := Lib.hid (hB.out.trans (hB2.mono hB.out.size))
            clear hB2 hM
            go_wp2_with (fail)
            refine (Bu.same_any hL.out hO.out bl.out bl.out).mono ?_; rintro e' w10 ⟨rfl, hB2⟩
            rw [decide_eq_true rfl]
            replace hB := Lib.hid (hB.out.trans (hB2.mono hB.out.size))
            clear hB2 hO hL
            go_wp2
            go_ret
            exact ⟨rfl, hB.out⟩
end Go.Proofs.YtpbgniffjlcbhaaDoor
