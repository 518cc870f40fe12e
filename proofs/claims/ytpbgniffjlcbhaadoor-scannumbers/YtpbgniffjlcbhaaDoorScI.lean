/-
  The document's Fit, a label; ScanNumbers, walked.
-/
import Derived.Test.YtpbgniffjlcbhaaDoorScG
import Derived.Test.YtpbgniffjlcbhaaDoorScH
import Derived.Test.YtpbgniffjlcbhaaDoorLe5
namespace Go.Proofs.YtpbgniffjlcbhaaDoor
open Go.RowKit
set_option linter.unusedVariables false
set_option linter.unusedSimpArgs false
set_option maxRecDepth 100000
theorem Bu.name_len {xs : List Int} (h : L.name xs = true) : 1 ≤ xs.length ∧ xs.length ≤ 12 := ⟨(Sc.name_part h).1, (Sc.name_part h).2.1⟩
set_option maxRecDepth 100000 in
theorem Bu.rfit_any (s : ByteArray) (hs : s.size ≤ maxLen) (w : World) : Calls Tryd.prog 16 #[.string s] w fun e w' => ∃ l, e = .returned (.string l) ∧ Na.label (L.bs l) = true ∧ Below w.heap.size w w' := by
  have C := Lib.hid (L.fit_any s hs w)
  unfold maxLen at hs
  have hs1 : (s.size : Int) ≤ 9223372036854775807 := by omega
  go_enter Tryd.func16, Tryd.ntmps16
  go_wp2_with (fail)
  refine C.out.mono ?_; rintro e w2 ⟨t, rfl, hn, hB⟩
  have hl := Bu.name_len hn
  rw [L.bs_len] at hl
  replace hB := Lib.hid hB
  have ht1 : (t.size : Int) ≤ 12 := by omega
  by_cases c : (s.size : Int) % 3 = 1
  · by_cases c2 : (t.size : Int) < 11
    · have R := Lib.hid (show Na.label (L.bs (⟨#[95]⟩ ++ t.extract 0 t.size)) = true by
        have e : L.bs (⟨#[95]⟩ ++ t.extract 0 t.size) = 95 :: (L.bs t).take 11 := by
          rw [Bu.bs_app, Sc.bs_extract, List.drop_zero, List.take_of_length_le (by rw [L.bs_len]; omega), List.take_of_length_le (by rw [L.bs_len]; omega)]; rfl
        rw [e]; exact Na.label_under hn)
      have c3 : (t.size : Int) ≤ 11 := by omega
      clear hn hl
      go_wp2
      go_ret
      refine ⟨_, rfl, ?_, hB.out⟩
      rw [show (min (t.size : Int) 11).toNat = t.size by omega]
      exact R.out
    · have R := Lib.hid (show Na.label (L.bs (⟨#[95]⟩ ++ t.extract 0 11)) = true by
        have e : L.bs (⟨#[95]⟩ ++ t.extract 0 11) = 95 :: (L.bs t).take 11 := by
          rw [Bu.bs_app, Sc.bs_extract, List.drop_zero]; rfl
        rw [e]; exact Na.label_under hn)
      by_cases c4 : (t.size : Int) = 11
      · have c5 : t.size = 11 := by omega
        clear hn hl
        go_wp2
        go_ret
        exact ⟨_, rfl, R.out, hB.out⟩
      · have c3 : ¬ (t.size : Int) ≤ 11 := by omega
        clear hn hl
        go_wp2
        go_ret
        refine ⟨_, rfl, ?_, hB.out⟩
        rw [show (min (t.size : Int) 11).toNat = 11 by omega]
        exact R.out
  · have R := Lib.hid (Na.label_name hn)
    clear hn hl
    go_wp2
    go_ret
    exact ⟨_, rfl, R.out, hB.out⟩
/-- a label, a byte behind it, and one in it -/
def Bu.d16 : ByteArray := ⟨#[48, 49, 50, 51, 52, 53, 54, 55, 56, 57, 97, 98, 99, 100, 101, 102]⟩
theorem Bu.digit0 : ∀ d : Fin 16, Bu.d16.extract d.val (d.val + 1) = strOfNums [Sc.dig (d.val : Int)] := by decide
theorem Bu.digit (d : Nat) (h : d < 16) : Bu.d16.extract d (d + 1) = strOfNums [Sc.dig (d : Int)] := Bu.digit0 ⟨d, h⟩
def Bu.n15 : ByteArray := ⟨#[48, 48, 48, 48, 48, 48, 48, 48, 48, 48, 48, 48, 48, 48, 48]⟩
theorem Bu.zeros (z : Nat) (h : z ≤ 15) : Bu.n15.extract 0 z = strOfNums (List.replicate z 48) := by
  rw [← L.str_bs (Bu.n15.extract 0 z), Sc.bs_extract, List.drop_zero, Nat.sub_zero, show L.bs Bu.n15 = List.replicate 15 48 from rfl, List.take_replicate, Nat.min_eq_left h]
theorem Bu.exec_eq_str {o : Oper} {a : Act} {w : World} (x y : Operand) (ho : o.op = .binOp .eql 34 x y 34) (k p n : Int) (t : ByteArray) (hx : a.eval x = .agg #[.int .i64 k, .int .i64 p, .string t, .int .u32 n]) (hy : a.eval y = .agg #[.int .i64 k, .int .i64 p, .string t, .int .u32 n]) :
    (execOp a.eval o).run Tryd.prog w = .ok (.value (.bool true)) w := by
  have hc : (#[.int .i64 k, .int .i64 p, .string t, .int .u32 n] : Array Value) = Bu.cs ⟨k, p, L.bs t, n⟩ := by unfold Bu.cs; rw [L.str_bs]
  rw [hc] at hx hy
  have e : binOp BinOp.eql 34 (.agg (Bu.cs ⟨k, p, L.bs t, n⟩)) (.agg (Bu.cs ⟨k, p, L.bs t, n⟩)) = (do pure (.bool (← Op.equal 34 (.agg (Bu.cs ⟨k, p, L.bs t, n⟩)) (.agg (Bu.cs ⟨k, p, L.bs t, n⟩))))) := by simp only [binOp]
  unfold execOp
  simp only [ho, hx, hy, Sem.run_bind]
  rw [run_eqGuard_agg w BinOp.eql 34 x y _ _ (by kernel_rfl)]
  simp only [Result.andThen_ok, e, Sem.run_bind, Bu.eq_tok ⟨k, p, L.bs t, n⟩ ⟨k, p, L.bs t, n⟩ (Sc.byt t) (Sc.byt t), Sem.run_pure]
  simp
set_option maxHeartbeats 8000000 in
set_option maxRecDepth 100000 in
theorem walk_numbers (W : World) (n u : Int) (s : ByteArray) (n0 : 0 ≤ n) (n1 : n < 4294967296) (u0 : 0 ≤ u) (u1 : u < 256) (hs : s.size ≤ maxLen) (hE : Sc.Errs W) :
    Calls Tryd.prog 5 #[.int .u32 n, .int .u8 u, .string s] W fun e w' => e = .returned (.bool true) ∧ Below W.heap.size W w' := by
  go_enter Tryd.func5, Tryd.ntmps5
  go_wp2_with (fail)
  refine (Bu.shown_any W hE).mono ?_; rintro e' w1 ⟨rfl, hB⟩
  have hE1 := Lib.hid (hE.below hB)
  replace hB := Lib.hid hB
  go_wp2
  go_loopw [8, 9, 10, 11, 13] (fun dv hv x y i wr => ∃ (k : Nat) (a b : Int), k ≤ 10 ∧ i = .int .i64 (k : Int) ∧ dv = .string (strOfNums (Sc.digs 10 k n)) ∧ hv = .string (strOfNums (Sc.digs 16 k n)) ∧ x = .int .u32 a ∧ y = .int .u32 b ∧ Hid (a = n / 10 ^ k) ∧ Hid (b = n / 16 ^ k) ∧ w1 = wr) (fun _ _ _ _ i _ => 10 - (intOf i).toNat)
  case atStart => exact ⟨0, n, n, by decide, rfl, rfl, rfl, rfl, rfl, Lib.hid (by rw [Int.pow_zero, Int.ediv_one]), Lib.hid (by rw [Int.pow_zero, Int.ediv_one]), rfl⟩
  case round =>
    obtain ⟨k, a, b, hk, rfl, rfl, rfl, rfl, rfl, ha, hb, rfl⟩ := hrel
    have hk0 : (0 : Int) ≤ (k : Int) := by omega
    by_cases hk10 : k < 10
    · have c1 : (k : Int) < 10 := by omega
      have a0 : 0 ≤ a := by rw [ha.out]; exact Int.ediv_nonneg n0 (Int.pow_nonneg (by decide))
      have b0 : 0 ≤ b := by rw [hb.out]; exact Int.ediv_nonneg n0 (Int.pow_nonneg (by decide))
      have a1 : a < 4294967296 := by rw [ha.out]; exact Int.lt_of_le_of_lt (Int.ediv_le_self _ n0) n1
      have b1 : b < 4294967296 := by rw [hb.out]; exact Int.lt_of_le_of_lt (Int.ediv_le_self _ n0) n1
      have hd := Sc.digs_front 10 (by decide) k n
      have hh := Sc.digs_front 16 (by decide) k n
      rw [← ha.out] at hd
      rw [← hb.out] at hh
      obtain ⟨d, hd'⟩ : ∃ d : Nat, a % 10 = (d : Int) := Int.eq_ofNat_of_zero_le (Int.emod_nonneg _ (by decide))
      obtain ⟨h, hh'⟩ : ∃ h : Nat, b % 16 = (h : Int) := Int.eq_ofNat_of_zero_le (Int.emod_nonneg _ (by decide))
      have d10 : d < 10 := by have := Int.emod_lt_of_pos a (show (0 : Int) < 10 by decide); omega
      have h16 : h < 16 := by have := Int.emod_lt_of_pos b (show (0 : Int) < 16 by decide); omega
      rw [hd'] at hd
      rw [hh'] at hh
      have hD := Lib.hid (show (⟨#[48, 49, 50, 51, 52, 53, 54, 55, 56, 57, 97, 98, 99, 100, 101, 102]⟩ : ByteArray).extract d (d + 1) ++ strOfNums (Sc.digs 10 k n) = strOfNums (Sc.digs 10 (k + 1) n) by
        rw [show (⟨#[48, 49, 50, 51, 52, 53, 54, 55, 56, 57, 97, 98, 99, 100, 101, 102]⟩ : ByteArray).extract d (d + 1) = _ from Bu.digit d (by omega), Bu.strs, hd]; rfl)
      have hH := Lib.hid (show (⟨#[48, 49, 50, 51, 52, 53, 54, 55, 56, 57, 97, 98, 99, 100, 101, 102]⟩ : ByteArray).extract h (h + 1) ++ strOfNums (Sc.digs 16 k n) = strOfNums (Sc.digs 16 (k + 1) n) by
        rw [show (⟨#[48, 49, 50, 51, 52, 53, 54, 55, 56, 57, 97, 98, 99, 100, 101, 102]⟩ : ByteArray).extract h (h + 1) = _ from Bu.digit h (by omega), Bu.strs, hh]; rfl)
      have q1 : (strOfNums (Sc.digs 10 k n)).size = k := by rw [strOfNums_size, Sc.digs_len]
      have q2 : (strOfNums (Sc.digs 16 k n)).size = k := by rw [strOfNums_size, Sc.digs_len]
      clear hd hh
      go_wp2
      go_roundw
      case rel => exact ⟨k + 1, a / 10, b / 16, by omega, by go_num, by rw [hD.out], by rw [hH.out], by trivial, by trivial, Lib.hid (by rw [ha.out, Int.ediv_ediv_of_nonneg (Int.pow_nonneg (by decide)), Int.pow_succ]), Lib.hid (by rw [hb.out, Int.ediv_ediv_of_nonneg (Int.pow_nonneg (by decide)), Int.pow_succ]), by trivial⟩
      case measure => simp [intOf]; omega
    · obtain rfl : k = 10 := by omega
      clear ha hb hk hk10 hk0
      have pD := Sc.noughts_all 0 10 (by decide) (by decide) 10 n
      have pH := Sc.noughts_all 0 16 (by decide) (by decide) 10 n
      rw [List.replicate_zero, List.nil_append] at pD pH
      have bD := L.bs_str (Sc.digs 10 10 n) (fun x hx => Sc.part_rng (List.all_eq_true.1 pD x hx))
      have bH := L.bs_str (Sc.digs 16 10 n) (fun x hx => Sc.part_rng (List.all_eq_true.1 pH x hx))
      have zD : (strOfNums (Sc.digs 10 10 n)).size = 10 := by rw [strOfNums_size, Sc.digs_len]
      have zH : (strOfNums (Sc.digs 16 10 n)).size = 10 := by rw [strOfNums_size, Sc.digs_len]
      generalize strOfNums (Sc.digs 10 10 n) = D at *
      generalize strOfNums (Sc.digs 16 10 n) = H at *
      obtain ⟨z, hz⟩ : ∃ z : Nat, u % 16 = (z : Int) := Int.eq_ofNat_of_zero_le (Int.emod_nonneg _ (by decide))
      have z15 : z ≤ 15 := by have := Int.emod_lt_of_pos u (show (0 : Int) < 16 by decide); omega
      obtain ⟨Q, hQ⟩ : ∃ Q, Bu.n15.extract 0 z = Q := ⟨_, rfl⟩
      have bQ : L.bs Q = List.replicate z 48 := by
        rw [← hQ, Sc.bs_extract, List.drop_zero, Nat.sub_zero, show L.bs Bu.n15 = List.replicate 15 48 from rfl, List.take_replicate, Nat.min_eq_left z15]
      have zQ : Q.size = z := by rw [← L.bs_len, bQ, List.length_replicate]
      replace hQ := Lib.hid (show (⟨#[48, 48, 48, 48, 48, 48, 48, 48, 48, 48, 48, 48, 48, 48, 48]⟩ : ByteArray).extract 0 z = Q from hQ)
      obtain ⟨t1, t2, l1, hk1, hv1, hv2⟩ := Sc.line_nums z n n0 n1
      have e1 : L.bs ((⟨#[48, 120]⟩ : ByteArray) ++ Q ++ H ++ (⟨#[32]⟩ : ByteArray) ++ Q ++ D) = Sc.lineN z n := by
        rw [Bu.bs_app, Bu.bs_app, Bu.bs_app, Bu.bs_app, Bu.bs_app, bQ, bH, bD, show L.bs ⟨#[48, 120]⟩ = [48, 120] from rfl, show L.bs ⟨#[32]⟩ = [32] from rfl]
        unfold Sc.lineN
        simp
      have y1 : ((⟨#[48, 120]⟩ : ByteArray) ++ Q ++ H ++ (⟨#[32]⟩ : ByteArray) ++ Q ++ D).size ≤ 60 := by
        rw [ByteArray.size_append, ByteArray.size_append, ByteArray.size_append, ByteArray.size_append, ByteArray.size_append, zD, zH, zQ, show (⟨#[48, 120]⟩ : ByteArray).size = 2 from rfl, show (⟨#[32]⟩ : ByteArray).size = 1 from rfl]
        omega
      obtain ⟨S1, hS1⟩ : ∃ S, (⟨#[48, 120]⟩ : ByteArray) ++ Q ++ H ++ (⟨#[32]⟩ : ByteArray) ++ Q ++ D = S := ⟨_, rfl⟩
      rw [hS1] at e1 y1
      rw [← e1] at l1
      have e2 : L.bs ((⟨#[49]⟩ : ByteArray) ++ H.extract 2 10 ++ (⟨#[103]⟩ : ByteArray)) = 49 :: ((Sc.digs 16 10 n).drop 2 ++ [103]) := by
        rw [Bu.bs_app, Bu.bs_app, Sc.bs_extract, bH, List.take_of_length_le (by rw [List.length_drop, Sc.digs_len]; decide), show L.bs ⟨#[49]⟩ = [49] from rfl, show L.bs ⟨#[103]⟩ = [103] from rfl]
        rfl
      have l2 := Sc.line_g ((Sc.digs 16 10 n).drop 2) (List.all_eq_true.2 fun x hx => List.all_eq_true.1 pH x (List.mem_of_mem_drop hx))
      rw [← e2] at l2
      have y0 : (H.extract 2 10).size = 8 := by rw [ByteArray.size_extract]; omega
      have y2 : ((⟨#[49]⟩ : ByteArray) ++ H.extract 2 10 ++ (⟨#[103]⟩ : ByteArray)).size ≤ 60 := by
        rw [ByteArray.size_append, ByteArray.size_append, y0, show (⟨#[49]⟩ : ByteArray).size = 1 from rfl, show (⟨#[103]⟩ : ByteArray).size = 1 from rfl]
        decide
      obtain ⟨S2, hS2⟩ : ∃ S, (⟨#[49]⟩ : ByteArray) ++ H.extract 2 10 ++ (⟨#[103]⟩ : ByteArray) = S := ⟨_, rfl⟩
      rw [hS2] at l2 y2
      have l3 : Sc.line (L.bs ⟨#[52, 50, 57, 52, 57, 54, 55, 50, 57, 54]⟩) = .error 21 := by kernel_rfl
      have l4 : Sc.line (L.bs ⟨#[48, 120]⟩) = .error 21 := by kernel_rfl
      replace hS1 := Lib.hid hS1
      replace hS2 := Lib.hid hS2
      replace l1 := Lib.hid l1
      replace l2 := Lib.hid l2
      replace l3 := Lib.hid l3
      replace l4 := Lib.hid l4
      clear bD bH bQ pD pH e1 e2
      go_wp2_with (fail)
      rw [hQ.out, hS1.out]
      refine (Sc.line_any S1 (by omega) w1 hE1.out).mono ?_; rintro e' w2 ⟨v, rfl, hR, hB2⟩
      rw [l1.out] at hR
      obtain ⟨A1, c1, rfl, hO⟩ := Bu.okR hR
      rw [show [t1, t2].length = 2 from rfl] at hO ⊢
      have hT := Lib.hid hO.tr
      replace hE1 := Lib.hid (hE1.out.below hB2)
      replace hB := Lib.hid (hB.out.trans (hB2.mono hB.out.size))
      clear hR hB2 hO l1 hS1 hQ y1
      go_wp2_with (fail)
      rw [hS2.out]
      refine (Sc.line_any S2 (by omega) w2 hE1.out).mono ?_; rintro e' w3 ⟨v, rfl, hR, hB2⟩
      rw [l2.out] at hR
      obtain rfl := Bu.errR hR
      replace hT := Lib.hid (hT.out.below hB2)
      replace hE1 := Lib.hid (hE1.out.below hB2)
      replace hB := Lib.hid (hB.out.trans (hB2.mono hB.out.size))
      clear hR hB2 l2 hS2 y2 y0
      go_wp2_with (fail)
      refine (Sc.line_any _ (by decide) w3 hE1.out).mono ?_; rintro e' w4 ⟨v, rfl, hR, hB2⟩
      rw [l3.out] at hR
      obtain rfl := Bu.errR hR
      replace hT := Lib.hid (hT.out.below hB2)
      replace hE1 := Lib.hid (hE1.out.below hB2)
      replace hB := Lib.hid (hB.out.trans (hB2.mono hB.out.size))
      clear hR hB2 l3
      go_wp2_with (fail)
      refine (Sc.line_any _ (by decide) w4 hE1.out).mono ?_; rintro e' w5 ⟨v, rfl, hR, hB2⟩
      rw [l4.out] at hR
      obtain rfl := Bu.errR hR
      replace hT := Lib.hid (hT.out.below hB2)
      replace hE1 := Lib.hid (hE1.out.below hB2)
      replace hB := Lib.hid (hB.out.trans (hB2.mono hB.out.size))
      clear hR hB2 l4
      go_wp2_with (fail)
      refine (Bu.few_any s hs _).mono ?_; rintro e' w6 ⟨rfl, rfl⟩
      have yc := Bu.cut_size s
      go_wp2_with (fail)
      refine (Bu.rfit_any (Bu.cut s) (by unfold maxLen; omega) w5).mono ?_; rintro e' w6 ⟨t, rfl, hlab, hB2⟩
      replace hT := Lib.hid (hT.out.below hB2)
      replace hE1 := Lib.hid (hE1.out.below hB2)
      replace hB := Lib.hid (hB.out.trans (hB2.mono hB.out.size))
      obtain ⟨cc, r, ecr, lcr, hlet, hall⟩ := Sc.label_part hlab
      have l5 := Sc.line_both hlet (by rw [← ecr]; exact hall)
      rw [← ecr] at l5
      have zt : t.size ≤ 12 := by rw [← L.bs_len]; exact lcr
      rw [L.bs_len] at l5
      have e5 : L.bs (t ++ (⟨#[32, 46]⟩ : ByteArray) ++ t) = L.bs t ++ 32 :: 46 :: L.bs t := by
        rw [Bu.bs_app, Bu.bs_app, show L.bs ⟨#[32, 46]⟩ = [32, 46] from rfl, List.append_assoc]; rfl
      have y5 : (t ++ (⟨#[32, 46]⟩ : ByteArray) ++ t).size ≤ 60 := by
        rw [ByteArray.size_append, ByteArray.size_append, show (⟨#[32, 46]⟩ : ByteArray).size = 2 from rfl]; omega
      obtain ⟨S5, hS5⟩ : ∃ S, t ++ (⟨#[32, 46]⟩ : ByteArray) ++ t = S := ⟨_, rfl⟩
      rw [hS5] at e5 y5
      rw [← e5] at l5
      replace hS5 := Lib.hid hS5
      replace l5 := Lib.hid l5
      have zti : (t.size : Int) ≤ 12 := by omega
      clear hB2 hlab ecr lcr hlet hall e5 yc
      go_wp2_with (fail)
      rw [hS5.out]
      refine (Sc.line_any S5 (by omega) w6 hE1.out).mono ?_; rintro e' w7 ⟨v, rfl, hR, hB2⟩
      rw [l5.out] at hR
      obtain ⟨A5, c5, rfl, hO⟩ := Bu.okR hR
      rw [show ([⟨1, 0, L.bs t, 0⟩, ⟨4, (t.size : Int) + 1, L.bs t, 0⟩] : List Sc.Tk).length = 2 from rfl] at hO ⊢
      replace hT := hT.out.below hB2
      have hT5 := hO.tr
      replace hB := Lib.hid (hB.out.trans (hB2.mono hB.out.size))
      clear hR hB2 hO hE1 l5 hS5 y5 hE hs
      obtain ⟨b1, o1, rfl⟩ := hT.place (by decide)
      obtain ⟨b5, o5, rfl⟩ := hT5.place (by decide)
      obtain ⟨a0, _, _, a3⟩ := hT.four 0 (by decide)
      obtain ⟨_, _, _, d3⟩ := hT.four 1 (by decide)
      have r0 : w7.rangeAt b5 (o5 + 0 * 4) (Sc.cs ⟨1, 0, L.bs t, 0⟩) := hT5.range 0 (by decide)
      have r1 : w7.rangeAt b5 (o5 + 1 * 4) (Sc.cs ⟨4, (t.size : Int) + 1, L.bs t, 0⟩) := hT5.range 1 (by decide)
      replace a0 : w7.cell? ⟨b1, o1 + 0 * 4, Option.none⟩ = some (.int .i64 2) := by rw [a0]; exact congrArg (fun q => some (Value.int .i64 q)) hk1
      replace a3 : w7.cell? ⟨b1, o1 + 0 * 4 + 3, Option.none⟩ = some (.int .u32 n) := by rw [a3]; exact congrArg (fun q => some (Value.int .u32 q)) hv1
      replace d3 : w7.cell? ⟨b1, o1 + 1 * 4 + 3, Option.none⟩ = some (.int .u32 n) := by rw [d3]; exact congrArg (fun q => some (Value.int .u32 q)) hv2
      have r0' := Lib.hid (show w7.rangeAt b5 o5 [.int .i64 1, .int .i64 0, .string t, .int .u32 0] by
        have h : Sc.cs ⟨1, 0, L.bs t, 0⟩ = [.int .i64 1, .int .i64 0, .string t, .int .u32 0] := by unfold Sc.cs; rw [L.str_bs]
        rw [← h]; simpa using r0)
      have r1' := Lib.hid (show w7.rangeAt b5 (o5 + 4) [.int .i64 4, .int .i64 ((t.size : Int) + 1), .string t, .int .u32 0] by
        have h : Sc.cs ⟨4, (t.size : Int) + 1, L.bs t, 0⟩ = [.int .i64 4, .int .i64 ((t.size : Int) + 1), .string t, .int .u32 0] := by unfold Sc.cs; rw [L.str_bs]
        rw [← h]; simpa using r1)
      simp only [Nat.zero_mul, Nat.add_zero, Nat.one_mul, Nat.reduceMul, Nat.add_assoc, Nat.reduceAdd] at a0 a3 d3
      clear hT hT5 r0 r1 hk1 hv1 hv2
      go_wp2_with (first
        | (with_reducible refine want_do (o := ⟨some 154, _, _, _, _, _⟩) rfl (Bu.exec_mid 34 (.tmp 153) rfl b5 o5 rfl #[.int .i64 1, .int .i64 0, .string t, .int .u32 0] r0'.out Tryd.underlying34 rfl (by kernel_rfl)) ?_)
        | (with_reducible refine want_do (o := ⟨some 162, _, _, _, _, _⟩) rfl (Bu.exec_mid 34 (.tmp 161) rfl b5 (o5 + 4) rfl #[.int .i64 4, .int .i64 ((t.size : Int) + 1), .string t, .int .u32 0] r1'.out Tryd.underlying34 rfl (by kernel_rfl)) ?_)
        | (with_reducible refine want_do (o := ⟨some 157, _, _, _, _, _⟩) rfl (Bu.exec_eq_str (.tmp 154) (.tmp 156) rfl 1 0 0 t rfl rfl) ?_)
        | (with_reducible refine want_do (o := ⟨some 168, _, _, _, _, _⟩) rfl (Bu.exec_eq_str (.tmp 162) (.tmp 167) rfl 4 ((t.size : Int) + 1) 0 t rfl rfl) ?_)
        | fail)
      go_ret
      exact ⟨rfl, hB.out⟩
end Go.Proofs.YtpbgniffjlcbhaaDoor
