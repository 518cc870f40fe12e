/-
  The walks of the laws of package word, continued.
-/
import Derived.Test.YtcdpfkfnpicaaaaWord3
namespace Go.Proofs.Ytcdpfkfnpicaaaa
open Go.RowKit
set_option linter.unusedVariables false

set_option maxRecDepth 100000 in
set_option maxHeartbeats 1000000 in
theorem walk_Products (a b : Int) (h0 : 0 ≤ a) (h1 : a < 4294967296) (h2 : 0 ≤ b) (h3 : b < 4294967296) (w : World) :
    Calls Try.prog 7 #[.int .u32 a, .int .u32 b] w fun e w' => e = .returned (.bool true) ∧ Grown w w' := by
  have p1 := W.mul_lo (a % 65536) (b % 65536) (by omega) (by omega)
  have p2 : a % 65536 * (b % 65536) ≤ 4294836225 := W.mul_hi (a % 65536) (b % 65536) 65535 65535 (by omega) (by omega) (by omega) (by omega)
  obtain ⟨H, hH⟩ : ∃ r, W.low (W.prod true a b / 4294967296) = r := ⟨_, rfl⟩
  obtain ⟨J, hJ⟩ : ∃ r, W.low (W.prod false a b / 4294967296) = r := ⟨_, rfl⟩
  have hL : W.low (W.prod true a b) = a * b % 4294967296 := by simp only [W.low, W.prod, if_true]
  have C1 := Lib.hid (fun w => mul_to a b true _ H hL hH h0 h1 h2 h3 w)
  have C2 := Lib.hid (fun w => mul_to b a true _ H (by rw [W.prod_comm, hL]) (by rw [W.prod_comm, hH]) h2 h3 h0 h1 w)
  have C3 := Lib.hid (fun w => mul_to a b false _ J (by rw [W.prod_low, hL]) hJ h0 h1 h2 h3 w)
  have C4 := Lib.hid (fun w => mul_to b a false _ J (by rw [W.prod_comm, W.prod_low, hL]) (by rw [W.prod_comm, hJ]) h2 h3 h0 h1 w)
  have C5 := Lib.hid (fun w => mul_to a 1 true a 0 (by rw [W.prod_one, W.low_in a h0 h1]) (by rw [W.prod_one, W.low_high a h0 h1]) h0 h1 (by omega) (by omega) w)
  have C7 := Lib.hid (fun w => mul_to (a % 65536) (b % 65536) false (a % 65536 * (b % 65536)) 0 (by rw [W.prod_small, W.low_in _ p1 (by omega)]) (by rw [W.prod_small, W.low_high _ p1 (by omega)]) (by omega) (by omega) (by omega) (by omega) w)
  have C8 := Lib.hid (fun w => mul_to 65536 65536 true 0 1 (by decide) (by decide) (by omega) (by omega) (by omega) (by omega) w)
  clear hH hJ hL
  by_cases ha : a < 2147483648
  · have C6 := Lib.hid (fun w => mul_to a 1 false a 0 (by rw [W.prod_one', W.sgn_low a h0 h1]) (by rw [W.prod_one', W.sgn_high a h0 h1, if_pos ha]) h0 h1 (by omega) (by omega) w)
    go_enter Try.func7, Try.ntmps7
    go_wp2_with fail
    refine (shown_any _).mono ?_; rintro e w' ⟨rfl, rfl⟩
    go_wp2_with fail
    refine (C1.out _).mono ?_; rintro e w' ⟨rfl, rfl⟩
    go_wp2_with fail
    refine (C2.out _).mono ?_; rintro e w' ⟨rfl, rfl⟩
    go_wp2_with fail
    refine (C3.out _).mono ?_; rintro e w' ⟨rfl, rfl⟩
    go_wp2_with fail
    refine (C4.out _).mono ?_; rintro e w' ⟨rfl, rfl⟩
    go_wp2_with fail
    refine (C5.out _).mono ?_; rintro e w' ⟨rfl, rfl⟩
    go_wp2_with fail
    refine (C6.out _).mono ?_; rintro e w' ⟨rfl, rfl⟩
    go_wp2_with fail
    refine (C7.out _).mono ?_; rintro e w' ⟨rfl, rfl⟩
    go_wp2_with fail
    refine (C8.out _).mono ?_; rintro e w' ⟨rfl, rfl⟩
    go_upto_region 13 with (fail)
    simp only [List.append]
    go_wp2
    go_ret
    exact yes rfl (by repeat (first | exact Grown.refl _ | apply Grown.drew | apply Grown_drewN | apply Grown.alloc))
  · have C6 := Lib.hid (fun w => mul_to a 1 false a 4294967295 (by rw [W.prod_one', W.sgn_low a h0 h1]) (by rw [W.prod_one', W.sgn_high a h0 h1, if_neg ha]) h0 h1 (by omega) (by omega) w)
    go_enter Try.func7, Try.ntmps7
    go_wp2_with fail
    refine (shown_any _).mono ?_; rintro e w' ⟨rfl, rfl⟩
    go_wp2_with fail
    refine (C1.out _).mono ?_; rintro e w' ⟨rfl, rfl⟩
    go_wp2_with fail
    refine (C2.out _).mono ?_; rintro e w' ⟨rfl, rfl⟩
    go_wp2_with fail
    refine (C3.out _).mono ?_; rintro e w' ⟨rfl, rfl⟩
    go_wp2_with fail
    refine (C4.out _).mono ?_; rintro e w' ⟨rfl, rfl⟩
    go_wp2_with fail
    refine (C5.out _).mono ?_; rintro e w' ⟨rfl, rfl⟩
    go_wp2_with fail
    refine (C6.out _).mono ?_; rintro e w' ⟨rfl, rfl⟩
    go_wp2_with fail
    refine (C7.out _).mono ?_; rintro e w' ⟨rfl, rfl⟩
    go_wp2_with fail
    refine (C8.out _).mono ?_; rintro e w' ⟨rfl, rfl⟩
    go_upto_region 13 with (fail)
    simp only [List.append]
    go_wp2
    go_ret
    exact yes rfl (by repeat (first | exact Grown.refl _ | apply Grown.drew | apply Grown_drewN | apply Grown.alloc))
set_option maxRecDepth 100000 in
set_option maxHeartbeats 1000000 in
theorem walk_Opposites (a b : Int) (h0 : 0 ≤ a) (h1 : a < 4294967296) (h2 : 0 ≤ b) (h3 : b < 4294967296) (w : World) :
    Calls Try.prog 10 #[.int .u32 a, .int .u32 b] w fun e w' => e = .returned (.bool true) ∧ Grown w w' := by
  obtain ⟨x, hx⟩ : ∃ r, W.low (a - b - W.one false) = r := ⟨_, rfl⟩
  obtain ⟨y, hy⟩ : ∃ r, W.low (b - a - W.one false) = r := ⟨_, rfl⟩
  obtain ⟨z, hz⟩ : ∃ r, W.low (0 - a - W.one false) = r := ⟨_, rfl⟩
  obtain ⟨l, hl⟩ : ∃ r, W.low (a - b - W.one true) = r := ⟨_, rfl⟩
  have x0 : 0 ≤ x := hx ▸ W.low_lo _
  have x1 : x < 4294967296 := hx ▸ W.low_hi _
  have y0 : 0 ≤ y := hy ▸ W.low_lo _
  have y1 : y < 4294967296 := hy ▸ W.low_hi _
  have z0 : 0 ≤ z := hz ▸ W.low_lo _
  have z1 : z < 4294967296 := hz ▸ W.low_hi _
  have l0 : 0 ≤ l := hl ▸ W.low_lo _
  have l1 : l < 4294967296 := hl ▸ W.low_hi _
  have C1 := Lib.hid (fun w => sub_to a b false x (decide (a < b)) _ hx (W.opp7 a b) rfl h0 h1 h2 h3 w)
  have C2 := Lib.hid (fun w => sub_to b a false y (decide (b < a)) _ hy (W.opp7 b a) rfl h2 h3 h0 h1 w)
  have C3 := Lib.hid (fun w => add_to x y false 0 (a != b) _ (by rw [← hx, ← hy, W.opp1]) (by rw [← hx, ← hy, W.opp2 a b h0 h1 h2 h3]) rfl x0 x1 y0 y1 w)
  have C4 := Lib.hid (fun w => sub_to 0 a false z (a != 0) _ hz (W.opp4 a h0) rfl (by omega) (by omega) h0 h1 w)
  have C5 := Lib.hid (fun w => sub_to 0 z false a _ _ (by rw [← hz, W.opp3 a h0 h1]) rfl rfl (by omega) (by omega) z0 z1 w)
  have C6 := Lib.hid (fun w => sub_to a b true l (decide (a ≤ b)) _ hl (W.opp6 a b) rfl h0 h1 h2 h3 w)
  have C7 := Lib.hid (fun w => add_to l 1 false x _ _ (by rw [← hl, W.opp5, hx]) rfl rfl l0 l1 (by omega) (by omega) w)
  clear hx hy hz hl
  generalize W.inS (W.sgn a - W.sgn b - W.one false) = v1 at C1
  generalize W.inS (W.sgn b - W.sgn a - W.one false) = v2 at C2
  generalize W.inS (W.sgn x + W.sgn y + W.one false) = v3 at C3
  generalize W.inS (W.sgn 0 - W.sgn a - W.one false) = v4 at C4
  generalize W.neg (0 - z - W.one false) = v5 at C5
  generalize W.inS (W.sgn 0 - W.sgn z - W.one false) = v6 at C5
  generalize W.inS (W.sgn a - W.sgn b - W.one true) = v7 at C6
  generalize W.over (l + 1 + W.one false) = v8 at C7
  generalize W.inS (W.sgn l + W.sgn 1 + W.one false) = v9 at C7
  obtain ⟨c1, d1⟩ : ∃ c, decide (a < b) = c := ⟨_, rfl⟩
  obtain ⟨c2, d2⟩ : ∃ c, decide (b < a) = c := ⟨_, rfl⟩
  obtain ⟨c3, d3⟩ : ∃ c, (a != b) = c := ⟨_, rfl⟩
  obtain ⟨c4, d4⟩ : ∃ c, (a != 0) = c := ⟨_, rfl⟩
  obtain ⟨c5, d5⟩ : ∃ c, decide (a ≤ b) = c := ⟨_, rfl⟩
  have Hf : Hid ((c1 == c2) = !c3) := Lib.hid (by
    rw [← d1, ← d2, ← d3, Bool.eq_iff_iff]; simp; omega)
  rw [d1] at C1
  rw [d2] at C2
  rw [d3] at C3
  rw [d4] at C4
  rw [d5] at C6
  clear d1 d2
  go_enter Try.func10, Try.ntmps10
  go_wp2_with fail
  refine (shown_any _).mono ?_; rintro e w' ⟨rfl, rfl⟩
  go_wp2_with fail
  refine (C1.out _).mono ?_; rintro e w' ⟨rfl, rfl⟩
  go_wp2_with fail
  refine (C2.out _).mono ?_; rintro e w' ⟨rfl, rfl⟩
  go_wp2_with fail
  refine (C3.out _).mono ?_; rintro e w' ⟨rfl, rfl⟩
  go_wp2_with fail
  refine (C4.out _).mono ?_; rintro e w' ⟨rfl, rfl⟩
  go_wp2_with fail
  refine (C5.out _).mono ?_; rintro e w' ⟨rfl, rfl⟩
  go_wp2_with fail
  refine (C6.out _).mono ?_; rintro e w' ⟨rfl, rfl⟩
  go_wp2_with fail
  refine (C7.out _).mono ?_; rintro e w' ⟨rfl, rfl⟩
  go_wp2
  go_ret
  exact yes rfl (by repeat (first | exact Grown.refl _ | apply Grown.drew | apply Grown_drewN | apply Grown.alloc))
set_option maxRecDepth 100000 in
set_option maxHeartbeats 1000000 in
theorem walk_Long (a b : Int) (h0 : 0 ≤ a) (h1 : a ≤ 18446744073709551615) (h2 : 0 ≤ b) (h3 : b ≤ 18446744073709551615) (w : World) :
    Calls Try.prog 8 #[.int .u64 a, .int .u64 b] w fun e w' => e = .returned (.bool true) ∧ Grown w w' := by
  obtain ⟨l, hl⟩ : ∃ r, W.low (a % 4294967296 + b % 4294967296 + W.one false) = r := ⟨_, rfl⟩
  obtain ⟨c, hc⟩ : ∃ r, W.over (a % 4294967296 + b % 4294967296 + W.one false) = r := ⟨_, rfl⟩
  obtain ⟨h, hh⟩ : ∃ r, W.low (a / 4294967296 + b / 4294967296 + W.one c) = r := ⟨_, rfl⟩
  obtain ⟨m, hm⟩ : ∃ r, W.low (a % 4294967296 - b % 4294967296 - W.one false) = r := ⟨_, rfl⟩
  obtain ⟨d, hd⟩ : ∃ r, W.neg (a % 4294967296 - b % 4294967296 - W.one false) = r := ⟨_, rfl⟩
  obtain ⟨n, hn⟩ : ∃ r, W.low (a / 4294967296 - b / 4294967296 - W.one d) = r := ⟨_, rfl⟩
  have l0 : 0 ≤ l := hl ▸ W.low_lo _
  have l1 : l < 4294967296 := hl ▸ W.low_hi _
  have g0 : 0 ≤ h := hh ▸ W.low_lo _
  have g1 : h < 4294967296 := hh ▸ W.low_hi _
  have m0 : 0 ≤ m := hm ▸ W.low_lo _
  have m1 : m < 4294967296 := hm ▸ W.low_hi _
  have n0 : 0 ≤ n := hn ▸ W.low_lo _
  have n1 : n < 4294967296 := hn ▸ W.low_hi _
  have A := W.long_add a b c hc h0 h1 h2 h3
  have B := W.long_sub a b d hd h0 h1 h2 h3
  have j1 : bits BinOp.or IntKind.u64 (h * 4294967296) l = IntKind.u64.wrap (a + b) := by rw [W.join64 h l g0 g1 l0 l1, ← hh, ← hl]; exact A.1
  have j2 : bits BinOp.or IntKind.u64 (n * 4294967296) m = IntKind.u64.wrap (a - b) := by rw [W.join64 n m n0 n1 m0 m1, ← hn, ← hm]; exact B.1
  have C1 := Lib.hid (fun w => add_to (a % 4294967296) (b % 4294967296) false l c _ hl hc rfl (by omega) (by omega) (by omega) (by omega) w)
  have C2 := Lib.hid (fun w => add_to (a / 4294967296) (b / 4294967296) c h _ _ hh A.2 rfl (by omega) (by omega) (by omega) (by omega) w)
  have C3 := Lib.hid (fun w => sub_to (a % 4294967296) (b % 4294967296) false m d _ hm hd rfl (by omega) (by omega) (by omega) (by omega) w)
  have C4 := Lib.hid (fun w => sub_to (a / 4294967296) (b / 4294967296) d n _ _ hn B.2 rfl (by omega) (by omega) (by omega) (by omega) w)
  clear hl hc hh hm hd hn A B
  generalize W.inS (W.sgn (a % 4294967296) + W.sgn (b % 4294967296) + W.one false) = v1 at C1
  generalize W.inS (W.sgn (a / 4294967296) + W.sgn (b / 4294967296) + W.one c) = v2 at C2
  generalize W.inS (W.sgn (a % 4294967296) - W.sgn (b % 4294967296) - W.one false) = v3 at C3
  generalize W.inS (W.sgn (a / 4294967296) - W.sgn (b / 4294967296) - W.one d) = v4 at C4
  go_enter Try.func8, Try.ntmps8
  go_wp2_with fail
  refine (shown_any _).mono ?_; rintro e w' ⟨rfl, rfl⟩
  go_wp2_with fail
  refine (C1.out _).mono ?_; rintro e w' ⟨rfl, rfl⟩
  go_wp2_with fail
  refine (C2.out _).mono ?_; rintro e w' ⟨rfl, rfl⟩
  go_wp2_with fail
  refine (C3.out _).mono ?_; rintro e w' ⟨rfl, rfl⟩
  go_wp2_with fail
  refine (C4.out _).mono ?_; rintro e w' ⟨rfl, rfl⟩
  go_wp2
  go_ret
  exact yes rfl (by repeat (first | exact Grown.refl _ | apply Grown.drew | apply Grown_drewN | apply Grown.alloc))
set_option maxRecDepth 100000 in
set_option maxHeartbeats 1000000 in
theorem walk_Quotients (a b : Int) (h0 : 0 ≤ a) (h1 : a < 4294967296) (h2 : 0 ≤ b) (h3 : b < 4294967296) (w : World) :
    Calls Try.prog 9 #[.int .u32 a, .int .u32 b] w fun e w' => e = .returned (.bool true) ∧ Grown w w' := by
  have hd := W.and30 b h2 h3
  have r0 : 0 ≤ a % (b % 1073741824 + 1) := Int.emod_nonneg _ (by omega)
  have r1 : a % (b % 1073741824 + 1) < b % 1073741824 + 1 := Int.emod_lt_of_pos _ (by omega)
  have q0 : 0 ≤ a / 4 / (b % 1073741824 + 1) := Int.ediv_nonneg (by omega) (by omega)
  have q1 : a / 4 / (b % 1073741824 + 1) ≤ a / 4 := Int.ediv_le_self _ (by omega)
  have d0 := W.div_one a h0 h1
  have d1 := W.div_small (a % (b % 1073741824 + 1)) (b % 1073741824 + 1) r0 (by omega) (by omega) (by omega)
  have d2 := W.div_small (a / 4) (b % 1073741824 + 1) (by omega) (by omega) (by omega) (by omega)
  have d3 := W.div_small (a / 4 + (b % 1073741824 + 1)) (b % 1073741824 + 1) (by omega) (by omega) (by omega) (by omega)
  have hs : W.sgn (b % 1073741824 + 1) = b % 1073741824 + 1 := W.sgn_id _ (by omega)
  have C1 := Lib.hid (fun w => div_to a 1 a 0 d0.1 d0.2 (by decide) h0 h1 (by omega) (by omega) w)
  have C2 := Lib.hid (fun w => div_to (a % (b % 1073741824 + 1)) (b % 1073741824 + 1) 0 (a % (b % 1073741824 + 1)) (by rw [d1.1, Int.ediv_eq_zero_of_lt r0 r1]) (by rw [d1.2, Int.emod_emod]) (by omega) (by omega) (by omega) (by omega) (by omega) w)
  have C3 := Lib.hid (fun w => div_to (a / 4) (b % 1073741824 + 1) (a / 4 / (b % 1073741824 + 1)) (a / 4 % (b % 1073741824 + 1)) d2.1 d2.2 (by omega) (by omega) (by omega) (by omega) (by omega) w)
  have C4 := Lib.hid (fun w => div_to (a / 4 + (b % 1073741824 + 1)) (b % 1073741824 + 1) (a / 4 / (b % 1073741824 + 1) + 1) (a / 4 % (b % 1073741824 + 1))
    (by rw [d3.1, Int.add_ediv_of_dvd_right (Int.dvd_refl _), Int.ediv_self (by omega)]) (by rw [d3.2, Int.add_emod_right]) (by omega) (by omega) (by omega) (by omega) (by omega) w)
  clear d0 d1 d2 d3 hs
  go_enter Try.func9, Try.ntmps9
  go_wp2_with fail
  refine (shown_any _).mono ?_; rintro e w' ⟨rfl, rfl⟩
  go_wp2_with fail
  refine (C1.out _).mono ?_; rintro e w' ⟨rfl, rfl⟩
  go_wp2_with fail
  refine (C2.out _).mono ?_; rintro e w' ⟨rfl, rfl⟩
  go_wp2_with fail
  refine (C3.out _).mono ?_; rintro e w' ⟨rfl, rfl⟩
  go_wp2_with fail
  refine (C4.out _).mono ?_; rintro e w' ⟨rfl, rfl⟩
  go_wp2
  go_ret
  exact yes rfl (by repeat (first | exact Grown.refl _ | apply Grown.drew | apply Grown_drewN | apply Grown.alloc))
end Go.Proofs.Ytcdpfkfnpicaaaa
