/-
  The walks of the laws of package word.
-/
import Derived.Test.YtcdpfkfnpicaaaaWord2
import Derived.RowKit3
import Derived.Deep.Cut
namespace Go.Proofs.Ytcdpfkfnpicaaaa
open Go.RowKit
set_option linter.unusedVariables false

theorem yes {a : Bool} {w w' : World} (h : a = true) (g : Grown w w') : Ending.returned (.bool a) = .returned (.bool true) ∧ Grown w w' := ⟨by rw [h], g⟩
theorem Grown_drewN {w w' : World} (h : Grown w w') (n : Nat) : Grown w (w'.drewN n) := h

set_option maxHeartbeats 400000 in
theorem div_shown (w : World) : Calls Try.prog 20 #[.int .u32 4294967289, .int .u32 2] w fun e w' =>
    e = .returned (.tuple #[.int .u32 4294967292, .int .u32 1, .bool true]) ∧ w.drew = w' := by
  have h := div_yes 4294967289 2 (by decide) (by decide) (by decide) (by decide) (by decide) w
  rw [show W.low (W.sgn 4294967289 / W.sgn 2) = 4294967292 from by decide, show W.low (W.sgn 4294967289 % W.sgn 2) = 1 from by decide] at h
  exact h
set_option maxHeartbeats 400000 in
theorem shown_any (w : World) : Calls Try.prog 11 #[] w fun e w' => e = .returned (.bool true) ∧ w.drew = w' := by
  go_enter Try.func11, Try.ntmps11
  go_wp2_with (go_at_call 20; refine (div_shown _).mono ?_; rintro e w' ⟨rfl, rfl⟩)
  go_ret
  exact ⟨rfl, rfl⟩
set_option maxHeartbeats 400000 in
theorem walk_Divides (a b : Int) (h0 : 0 ≤ a) (h1 : a < 4294967296) (h2 : 0 ≤ b) (h3 : b < 4294967296) (w : World) :
    Calls Try.prog 4 #[.int .u32 a, .int .u32 b] w fun e w' => e = .returned (.bool true) ∧ Grown w w' := by
  by_cases hb : 0 < W.sgn b
  · have hp := W.sgn_pos b hb h3
    have hb1 := hp.1
    have hb2 := hp.2.1
    clear hp
    have hb3 : (b == 0) = false := by simp; omega
    have hr := W.rest_lt a b hb h3
    have Hq := Lib.hid (W.quo_back a b h0 h1 hb h3)
    go_enter Try.func4, Try.ntmps4
    go_wp2_with (first
      | (go_at_call 11; refine (shown_any _).mono ?_; rintro e w' ⟨rfl, rfl⟩)
      | (go_at_call 20; refine (div_yes _ _ (by omega) (by omega) (by omega) (by omega) hb _).mono ?_; rintro e w' ⟨rfl, rfl⟩)
      | (go_at_call 21; refine (rdiv_yes _ _ (by omega) (by omega) (by omega) (by omega) hb _).mono ?_; rintro e w' ⟨rfl, rfl⟩))
    go_ret
    exact yes (by simp [Hq.out]) (by repeat (first | exact Grown.refl _ | apply Grown.drew | apply Grown_drewN | apply Grown.alloc))
  · go_enter Try.func4, Try.ntmps4
    go_wp2_with (first
      | (go_at_call 11; refine (shown_any _).mono ?_; rintro e w' ⟨rfl, rfl⟩)
      | (go_at_call 20; refine (div_no _ _ (by omega) (by omega) (by omega) (by omega) (by omega) _).mono ?_; rintro e w' ⟨rfl, rfl⟩)
      | (go_at_call 21; refine (rdiv_no _ _ (by omega) (by omega) (by omega) (by omega) (by omega) _).mono ?_; rintro e w' ⟨rfl, rfl⟩))
    all_goals go_ret
    · exact yes rfl (by repeat (first | exact Grown.refl _ | apply Grown.drew | apply Grown_drewN | apply Grown.alloc))
    · exact yes rfl (by repeat (first | exact Grown.refl _ | apply Grown.drew | apply Grown_drewN | apply Grown.alloc))
    · rename_i h
      exact absurd h.1 (by have := W.sgn_npos b (by omega) h2; simp; omega)
set_option maxRecDepth 100000 in
set_option maxHeartbeats 1000000 in
theorem walk_Back (a b : Int) (c : Bool) (h0 : 0 ≤ a) (h1 : a < 4294967296) (h2 : 0 ≤ b) (h3 : b < 4294967296) (w : World) :
    Calls Try.prog 5 #[.int .u32 a, .int .u32 b, .bool c] w fun e w' => e = .returned (.bool true) ∧ Grown w w' := by
  have o1 := W.one_lo c
  have o2 := W.one_hi c
  obtain ⟨r, hr⟩ : ∃ r, W.low (a + b + W.one c) = r := ⟨_, rfl⟩
  obtain ⟨t, ht⟩ : ∃ r, W.low (a - b - W.one c) = r := ⟨_, rfl⟩
  obtain ⟨d, hd⟩ : ∃ r, W.over (a + b + W.one c) = r := ⟨_, rfl⟩
  obtain ⟨f, hf⟩ : ∃ r, W.neg (a - b - W.one c) = r := ⟨_, rfl⟩
  obtain ⟨v, hv⟩ : ∃ r, (!W.inS (W.sgn a + W.sgn b + W.one c)) = r := ⟨_, rfl⟩
  obtain ⟨u, hu⟩ : ∃ r, (!W.inS (W.sgn a - W.sgn b - W.one c)) = r := ⟨_, rfl⟩
  have r0 : 0 ≤ r := hr ▸ W.low_lo _
  have r1 : r < 4294967296 := hr ▸ W.low_hi _
  have t0 : 0 ≤ t := ht ▸ W.low_lo _
  have t1 : t < 4294967296 := ht ▸ W.low_hi _
  have hv' : v = true → (a / 2147483648 == b / 2147483648) = true := fun h => W.add_out a b (W.one c) h0 h1 h2 h3 o1 o2 (by rw [← hv] at h; simpa using h)
  have hu' : u = true → (a / 2147483648 != b / 2147483648) = true := fun h => W.sub_out a b (W.one c) h0 h1 h2 h3 o1 o2 (by rw [← hu] at h; simpa using h)
  have C1 := Lib.hid (fun w => add_to a b c r d v hr hd hv h0 h1 h2 h3 w)
  have C2 := Lib.hid (fun w => sub_to r b c a d _ (hr ▸ W.back1 a b (W.one c) h0 h1) (by rw [← hr, W.back2 a b (W.one c) h0 h1 h2 h3 o1 o2, hd]) rfl r0 r1 h2 h3 w)
  have C3 := Lib.hid (fun w => sub_to a b c t f u ht hf hu h0 h1 h2 h3 w)
  have C4 := Lib.hid (fun w => add_to t b c a f _ (ht ▸ W.back3 a b (W.one c) h0 h1) (by rw [← ht, W.back4 a b (W.one c) h0 h1 h2 h3 o1 o2, hf]) rfl t0 t1 h2 h3 w)
  have C5 := Lib.hid (fun w => add_to a 0 false a false false (by rw [show a + 0 + W.one false = a from by simp [W.one]]; exact W.low_in a h0 h1) (by rw [show a + 0 + W.one false = a from by simp [W.one]]; exact W.over_in a h1) (by rw [show W.sgn a + W.sgn 0 + W.one false = W.sgn a from by simp [W.one, show W.sgn 0 = 0 from rfl], W.inS_sgn a h0 h1]; rfl) h0 h1 (by omega) (by omega) w)
  have C6 := Lib.hid (fun w => sub_to a a false 0 false false (by rw [show a - a - W.one false = 0 from by simp [W.one]]; rfl) (by rw [show a - a - W.one false = 0 from by simp [W.one]]; rfl) (by rw [show W.sgn a - W.sgn a - W.one false = 0 from by simp [W.one]]; rfl) h0 h1 h0 h1 w)
  have C7 := Lib.hid (fun w => add_to b a c _ _ v rfl rfl (by rw [W.back5 (W.sgn a), hv]) h2 h3 h0 h1 w)
  clear hr ht hd hf hv hu
  generalize W.inS (W.sgn r - W.sgn b - W.one c) = x1 at C2
  generalize W.inS (W.sgn t + W.sgn b + W.one c) = x2 at C4
  generalize W.low (b + a + W.one c) = x3 at C7
  generalize W.over (b + a + W.one c) = x4 at C7
  cases v
  all_goals cases u
  all_goals
    (try have hv'' := hv' rfl)
    (try have hu'' := hu' rfl)
  all_goals
    clear hv' hu'
    go_enter Try.func5, Try.ntmps5
    go_wp2_with fail
    refine (shown_any _).mono ?_; rintro e w' ⟨rfl, rfl⟩
    go_wp2_with fail
    refine (C1.out _).mono ?_; rintro e w' ⟨rfl, rfl⟩
    go_wp2_with fail
    refine (C2.out _).mono ?_; rintro e w' ⟨rfl, rfl⟩
    go_wp2_with fail
    refine (C3.out _).mono ?_; rintro e w' ⟨rfl, rfl⟩
    go_wp2_with fail
    refine (C4.out _).mono ?_; rintro e w' ⟨rfl, rfl⟩
    go_wp2_with fail
    refine (C5.out _).mono ?_; rintro e w' ⟨rfl, rfl⟩
    go_wp2_with fail
    refine (C6.out _).mono ?_; rintro e w' ⟨rfl, rfl⟩
    go_wp2_with fail
    refine (C7.out _).mono ?_; rintro e w' ⟨rfl, rfl⟩
    go_upto_region 9 with (fail)
    simp only [List.append]
    go_wp2
    go_ret
    exact yes rfl (by repeat (first | exact Grown.refl _ | apply Grown.drew | apply Grown_drewN | apply Grown.alloc))
set_option maxRecDepth 100000 in
set_option maxHeartbeats 1000000 in
theorem walk_Shifts (a m n : Int) (h0 : 0 ≤ a) (h1 : a < 4294967296) (h2 : 0 ≤ m) (h3 : m < 4294967296) (h4 : 0 ≤ n) (h5 : n < 4294967296) (w : World) :
    Calls Try.prog 6 #[.int .u32 a, .int .u32 m, .int .u32 n] w fun e w' => e = .returned (.bool true) ∧ Grown w w' := by
  have y0 : 0 ≤ n % (32 - m % 32) := Int.emod_nonneg _ (by omega)
  have y1 : n % (32 - m % 32) < 32 - m % 32 := Int.emod_lt_of_pos _ (by omega)
  obtain ⟨σ, hσ⟩ : ∃ r, W.shift 2 a (m % 32) = r := ⟨_, rfl⟩
  obtain ⟨ρ, hρ⟩ : ∃ r, W.shift 3 a (m % 32) = r := ⟨_, rfl⟩
  have ρ0 : 0 ≤ ρ := hρ ▸ W.shift_lo 3 a _ h0 h1
  have ρ1 : ρ < 4294967296 := hρ ▸ W.shift_hi 3 a _ h0 h1
  have E1 := Lib.hid (fun w => shift_to 1 a (m % 32) _ (W.shift_left a m) h0 h1 (by omega) (by omega) w)
  have E2 := Lib.hid (fun w => shift_to 3 a (m % 32) ρ hρ h0 h1 (by omega) (by omega) w)
  have E3 := Lib.hid (fun w => shift_to 2 a (m % 32) σ hσ h0 h1 (by omega) (by omega) w)
  have E4 := Lib.hid (fun w => shift_to 3 ρ (32 - m % 32) a (hρ ▸ W.shift_round a m h0 h1) ρ0 ρ1 (by omega) (by omega) w)
  have E5 := Lib.hid (fun w => shift_to 0 a m a (W.shift_other 0 a m (Or.inl rfl)) h0 h1 h2 h3 w)
  have E6 := Lib.hid (fun w => shift_to 4 a m a (W.shift_other 4 a m (Or.inr rfl)) h0 h1 h2 h3 w)
  have f1 : (σ / 2147483648 == a / 2147483648) = true := by rw [← hσ, W.shift_sign a _ h0 h1]; simp
  have f2 : a < 2147483648 → (σ == a / 2 ^ (m % 32).toNat) = true := fun h => by rw [← hσ, W.shift_small a _ h0 h]; simp
  clear hσ hρ
  go_enter Try.func6, Try.ntmps6
  go_wp2_with fail
  refine (shown_any _).mono ?_; rintro e w' ⟨rfl, rfl⟩
  go_wp2_with fail
  go_loop [10] (fun i => ∃ k : Int, 1 ≤ k ∧ k ≤ 4 ∧ i = .int .i64 k) (fun i => (4 - intOf i).toNat)
  case atStart => exact ⟨1, by omega, by omega, rfl⟩
  case round =>
    obtain ⟨k, hk1, hk4, rfl⟩ := hrel
    by_cases hk : k ≤ 3
    · obtain ⟨s, hs⟩ : ∃ r, W.shift k a (m % 32) = r := ⟨_, rfl⟩
      obtain ⟨t, ht⟩ : ∃ r, W.shift k a (m % 32 + n % (32 - m % 32)) = r := ⟨_, rfl⟩
      have s0 : 0 ≤ s := hs ▸ W.shift_lo k a _ h0 h1
      have s1 : s < 4294967296 := hs ▸ W.shift_hi k a _ h0 h1
      have D1 := Lib.hid (fun w => shift_to k a (m % 32) s hs h0 h1 (by omega) (by omega) w)
      have D2 := Lib.hid (fun w => shift_to k s (n % (32 - m % 32)) t (by rw [← hs, W.shift_add k a _ _ h0 h1 (by omega) y0 (by omega), ht]) s0 s1 (by omega) (by omega) w)
      have D3 := Lib.hid (fun w => shift_to k a (m % 32 + n % (32 - m % 32)) t ht h0 h1 (by omega) (by omega) w)
      have D4 := Lib.hid (fun w => shift_to k a (32 * n % 4294967296) a (W.shift_none k a _ h0 h1 (by omega)) h0 h1 (by omega) (by omega) w)
      have D5 := Lib.hid (fun w => shift_to k a m s (by rw [W.shift_mod, hs]) h0 h1 h2 h3 w)
      clear hs ht
      go_wp2_with fail
      refine (D1.out _).mono ?_; rintro e w' ⟨rfl, rfl⟩
      go_wp2_with fail
      refine (D2.out _).mono ?_; rintro e w' ⟨rfl, rfl⟩
      go_wp2_with fail
      refine (D3.out _).mono ?_; rintro e w' ⟨rfl, rfl⟩
      go_wp2_with fail
      refine (D4.out _).mono ?_; rintro e w' ⟨rfl, rfl⟩
      go_wp2_with fail
      refine (D5.out _).mono ?_; rintro e w' ⟨rfl, rfl⟩
      go_wp2_with fail
      refine (D1.out _).mono ?_; rintro e w' ⟨rfl, rfl⟩
      go_wp2_with fail
      go_round
      case rel => exact ⟨k + 1, by omega, by omega, rfl⟩
      case measure => simp [intOf]; omega
    · by_cases ha : a < 2147483648
      all_goals
        (try have f3 := f2 ha)
        clear f2
        go_wp2_with fail
        refine (E1.out _).mono ?_; rintro e w' ⟨rfl, rfl⟩
        go_wp2_with fail
        refine (E2.out _).mono ?_; rintro e w' ⟨rfl, rfl⟩
        go_wp2_with fail
        refine (E3.out _).mono ?_; rintro e w' ⟨rfl, rfl⟩
        go_wp2_with fail
        refine (E4.out _).mono ?_; rintro e w' ⟨rfl, rfl⟩
        go_wp2_with fail
        refine (E5.out _).mono ?_; rintro e w' ⟨rfl, rfl⟩
        go_wp2_with fail
        refine (E6.out _).mono ?_; rintro e w' ⟨rfl, rfl⟩
        go_wp2
        go_ret
        exact yes rfl (by repeat (first | exact Grown.refl _ | apply Grown.drew | apply Grown_drewN | apply Grown.alloc))
end Go.Proofs.Ytcdpfkfnpicaaaa
