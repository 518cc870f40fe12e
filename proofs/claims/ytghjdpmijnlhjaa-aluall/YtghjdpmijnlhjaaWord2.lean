/-
  The contracts of the document's own answers for package word (rivetref01): each answers what package word answers.
-/
import Derived.Test.YtghjdpmijnlhjaaWord1
namespace Go.Proofs.Ytghjdpmijnlhjaa
open Go.RowKit
set_option linter.unusedVariables false
set_option linter.unusedSimpArgs false

set_option maxHeartbeats 400000 in
theorem rone_any (c : Bool) (w : World) :
    Calls Try.prog 33 #[.bool c] w fun e w' => e = .returned (.int .i64 (W.one c)) ∧ w = w' := by
  cases c
  all_goals
    go_enter Try.func33, Try.ntmps33
    go_wp2
    go_ret
    exact ret1 rfl
set_option maxHeartbeats 400000 in
theorem rout_any (x : Int) (w : World) :
    Calls Try.prog 34 #[.int .i64 x] w fun e w' => e = .returned (.bool (!W.inS x)) ∧ w = w' := by
  by_cases h : x < -2147483648
  · go_enter Try.func34, Try.ntmps34
    go_wp2
    go_ret
    exact ret1b (by simp [W.inS]; omega)
  · go_enter Try.func34, Try.ntmps34
    go_wp2
    go_ret
    exact ret1b (by rw [Bool.eq_iff_iff]; simp [W.inS]; omega)
set_option maxHeartbeats 400000 in
theorem rsigned_any (a : Int) (h0 : 0 ≤ a) (h1 : a < 4294967296) (w : World) :
    Calls Try.prog 35 #[.int .u32 a] w fun e w' => e = .returned (.int .i64 (W.sgn a)) ∧ w = w' := by
  by_cases h : a < 2147483648
  all_goals
    go_enter Try.func35, Try.ntmps35
    go_wp2
    go_ret
    exact ret1 (by unfold W.sgn; split <;> omega)
set_option maxHeartbeats 400000 in
theorem radd_any (a b : Int) (c : Bool) (h0 : 0 ≤ a) (h1 : a < 4294967296) (h2 : 0 ≤ b) (h3 : b < 4294967296) (w : World) :
    Calls Try.prog 22 #[.int .u32 a, .int .u32 b, .bool c] w fun e w' =>
      e = .returned (.tuple #[.int .u32 (W.low (a + b + W.one c)), .bool (W.over (a + b + W.one c)), .bool (!W.inS (W.sgn a + W.sgn b + W.one c))]) ∧ w = w' := by
  have o1 := W.one_lo c
  have o2 := W.one_hi c
  have s1 := W.sgn_lo a h0
  have s2 := W.sgn_hi a h1
  have s3 := W.sgn_lo b h2
  have s4 := W.sgn_hi b h3
  go_enter Try.func22, Try.ntmps22
  go_wp2_with (first
    | (go_at_call 33; refine (rone_any _ _).mono ?_; rintro e w' ⟨rfl, rfl⟩)
    | (go_at_call 35; refine (rsigned_any _ (by omega) (by omega) _).mono ?_; rintro e w' ⟨rfl, rfl⟩)
    | (go_at_call 34; refine (rout_any _ _).mono ?_; rintro e w' ⟨rfl, rfl⟩))
  go_ret3
  exact ret3 (by unfold W.low; omega) (by rw [Bool.eq_iff_iff]; simp [W.over]; omega) rfl
set_option maxHeartbeats 400000 in
theorem rsub_any (a b : Int) (c : Bool) (h0 : 0 ≤ a) (h1 : a < 4294967296) (h2 : 0 ≤ b) (h3 : b < 4294967296) (w : World) :
    Calls Try.prog 23 #[.int .u32 a, .int .u32 b, .bool c] w fun e w' =>
      e = .returned (.tuple #[.int .u32 (W.low (a - b - W.one c)), .bool (W.neg (a - b - W.one c)), .bool (!W.inS (W.sgn a - W.sgn b - W.one c))]) ∧ w = w' := by
  have o1 := W.one_lo c
  have o2 := W.one_hi c
  have s1 := W.sgn_lo a h0
  have s2 := W.sgn_hi a h1
  have s3 := W.sgn_lo b h2
  have s4 := W.sgn_hi b h3
  go_enter Try.func23, Try.ntmps23
  go_wp2_with (first
    | (go_at_call 33; refine (rone_any _ _).mono ?_; rintro e w' ⟨rfl, rfl⟩)
    | (go_at_call 35; refine (rsigned_any _ (by omega) (by omega) _).mono ?_; rintro e w' ⟨rfl, rfl⟩)
    | (go_at_call 34; refine (rout_any _ _).mono ?_; rintro e w' ⟨rfl, rfl⟩))
  go_ret3
  exact ret3 (by unfold W.low; omega) rfl rfl
set_option maxHeartbeats 400000 in
theorem rmul_any (a b : Int) (u : Bool) (h0 : 0 ≤ a) (h1 : a < 4294967296) (h2 : 0 ≤ b) (h3 : b < 4294967296) (w : World) :
    Calls Try.prog 24 #[.int .u32 a, .int .u32 b, .bool u] w fun e w' =>
      e = .returned (.tuple #[.int .u32 (W.low (W.prod u a b)), .int .u32 (W.low (W.prod u a b / 4294967296))]) ∧ w = w' := by
  have p1 := W.mul_lo (a % 65536) (b % 65536) (by omega) (by omega)
  have p2 := W.mul_hi (a % 65536) (b % 65536) 65535 65535 (by omega) (by omega) (by omega) (by omega)
  have q1 := W.mul_lo (a % 65536) (b / 65536) (by omega) (by omega)
  have q2 := W.mul_hi (a % 65536) (b / 65536) 65535 65535 (by omega) (by omega) (by omega) (by omega)
  have r1 := W.mul_lo (a / 65536) (b % 65536) (by omega) (by omega)
  have r2 := W.mul_hi (a / 65536) (b % 65536) 65535 65535 (by omega) (by omega) (by omega) (by omega)
  have t1 := W.mul_lo (a / 65536) (b / 65536) (by omega) (by omega)
  have t2 := W.mul_hi (a / 65536) (b / 65536) 65535 65535 (by omega) (by omega) (by omega) (by omega)
  cases u
  · by_cases ha : W.sgn a < 0
    all_goals by_cases hb : W.sgn b < 0
    all_goals
      go_enter Try.func24, Try.ntmps24
      go_wp2_with (first
        | (go_at_call 35; refine (rsigned_any _ (by omega) (by omega) _).mono ?_; rintro e w' ⟨rfl, rfl⟩))
      go_ret2
    · have e1 := W.sgn_of_lt a h0 h1 ha
      have e2 := W.sgn_of_lt b h2 h3 hb
      exact ret2i (W.half_low _ _ _) (by rw [W.half_high]; exact W.high_of a b b a (by rw [if_neg e1]) (by rw [if_neg e2]))
    · have e1 := W.sgn_of_lt a h0 h1 ha
      have e2 := W.sgn_of_ge b hb h3
      exact ret2i (W.half_low _ _ _) (by rw [W.half_high]; have hh := W.high_of a b b 0 (by rw [if_neg e1]) (by rw [if_pos e2]); simp only [Int.sub_zero] at hh; exact hh)
    · have e1 := W.sgn_of_ge a ha h1
      have e2 := W.sgn_of_lt b h2 h3 hb
      exact ret2i (W.half_low _ _ _) (by rw [W.half_high]; have hh := W.high_of a b 0 a (by rw [if_pos e1]) (by rw [if_neg e2]); simp only [Int.sub_zero] at hh; exact hh)
    · have e1 := W.sgn_of_ge a ha h1
      have e2 := W.sgn_of_ge b hb h3
      exact ret2i (W.half_low _ _ _) (by rw [W.half_high]; have hh := W.high_of a b 0 0 (by rw [if_pos e1]) (by rw [if_pos e2]); simp only [Int.sub_zero] at hh; exact hh)
  · go_enter Try.func24, Try.ntmps24
    go_wp2_with (first
      | (go_at_call 35; refine (rsigned_any _ (by omega) (by omega) _).mono ?_; rintro e w' ⟨rfl, rfl⟩))
    go_ret2
    exact ret2i (W.half_low _ _ _) (by rw [W.half_high]; simp only [W.prod, W.low, if_true]; omega)
set_option maxHeartbeats 400000 in
theorem rdiv_no (a b : Int) (h0 : 0 ≤ a) (h1 : a < 4294967296) (h2 : 0 ≤ b) (h3 : b < 4294967296) (hb : W.sgn b ≤ 0) (w : World) :
    Calls Try.prog 25 #[.int .u32 a, .int .u32 b] w fun e w' =>
      e = .returned (.tuple #[.int .u32 0, .int .u32 0, .bool false]) ∧ w = w' := by
  go_enter Try.func25, Try.ntmps25
  go_wp2_with (first
    | (go_at_call 35; refine (rsigned_any _ (by omega) (by omega) _).mono ?_; rintro e w' ⟨rfl, rfl⟩))
  go_ret3
  exact ret3i rfl rfl rfl
set_option maxHeartbeats 400000 in
theorem rdiv_yes (a b : Int) (h0 : 0 ≤ a) (h1 : a < 4294967296) (h2 : 0 ≤ b) (h3 : b < 4294967296) (hb : 0 < W.sgn b) (w : World) :
    Calls Try.prog 25 #[.int .u32 a, .int .u32 b] w fun e w' =>
      e = .returned (.tuple #[.int .u32 (W.low (W.sgn a / W.sgn b)), .int .u32 (W.low (W.sgn a % W.sgn b)), .bool true]) ∧ w = w' := by
  have s1 := W.sgn_lo a h0
  have s2 := W.sgn_hi a h1
  have s4 := W.sgn_hi b h3
  have hb1 : (W.sgn b == 0) = false := by simp; omega
  go_enter Try.func25, Try.ntmps25
  go_wp2_with (first
    | (go_at_call 35; refine (rsigned_any _ (by omega) (by omega) _).mono ?_; rintro e w' ⟨rfl, rfl⟩))
  all_goals go_ret3
  · rename_i hneg
    exact ret3i (by rw [W.wrap64_low3, (W.quo_neg _ _ hb hneg).1]) (by rw [W.wrap64_low, (W.quo_neg _ _ hb hneg).2]) rfl
  · rename_i hpos
    exact ret3i (by rw [W.wrap64_low2, (W.quo_pos _ _ hb (by omega)).1]) (by rw [(W.quo_pos _ _ hb (by omega)).2]; rfl) rfl
set_option maxHeartbeats 1000000 in
theorem rshift_at (k a n : Int) (h0 : 0 ≤ a) (h1 : a < 4294967296) (h2 : 0 ≤ n) (h3 : n < 4294967296) (w : World)
    (c1 c2 c3 : Bool) (k1 : (k == 1) = c1) (k2 : (k == 2) = c2) (k3 : (k == 3) = c3) :
    Calls Try.prog 21 #[.int .i64 k, .int .u32 a, .int .u32 n] w fun e w' =>
      e = .returned (.int .u32 (W.shift k a n)) ∧ w = w' := by
  have Hz := Lib.hid (W.shiftN_zero k a h0 h1)
  go_enter Try.func21, Try.ntmps21
  go_wp2
  go_loop [1, 7] (fun x i => ∃ j : Nat, (j : Int) ≤ n % 32 ∧ i = .int .i64 j ∧ x = .int .u32 (W.shiftN k a j)) (fun _ i => (n % 32 - intOf i).toNat)
  case atStart => exact ⟨0, by omega, rfl, by rw [Hz.out]⟩
  case round =>
    obtain ⟨j, hj, rfl, rfl⟩ := hrel
    have b := W.shiftN_in k a j (by omega) h0 h1
    have b0 := b.1
    have b1 := b.2
    clear b
    by_cases hlt : (j : Int) < n % 32
    · have Hs := Lib.hid (W.shiftN_step k a j (by omega) h0 h1)
      generalize W.shiftN k a j = s at *
      go_wp2
      all_goals
        go_round
        case rel => exact ⟨j + 1, by omega, by go_num, by rw [← Hs.out]; first | rw [← W.step1 k s (k1.trans ‹_›)] | rw [← W.step2 k s (k2.trans ‹_›)] | rw [← W.step3 k s (k3.trans ‹_›)] | rw [← W.step4 k s (k1.trans ‹_›) (k2.trans ‹_›) (k3.trans ‹_›)]⟩
        case measure => simp [intOf]; omega
    · go_wp2
      go_ret
      exact ret1 (by rw [W.shift]; congr 1; omega)
theorem rshift_any (k a n : Int) (h0 : 0 ≤ a) (h1 : a < 4294967296) (h2 : 0 ≤ n) (h3 : n < 4294967296) (w : World) :
    Calls Try.prog 21 #[.int .i64 k, .int .u32 a, .int .u32 n] w fun e w' =>
      e = .returned (.int .u32 (W.shift k a n)) ∧ w = w' := rshift_at k a n h0 h1 h2 h3 w _ _ _ rfl rfl rfl
end Go.Proofs.Ytghjdpmijnlhjaa
