/-
  The contracts of the document's own answers Get and Set (rivetref02): they answer what package field answers.
-/
import Derived.Test.YtknhobbfclhblaaField2
namespace Go.Proofs.Ytknhobbfclhblaa
open Go.RowKit
set_option linter.unusedVariables false
def F.inF (i a n : Int) : Bool := decide (a ≤ i) && decide (i - a < n)
theorem F.inF_yes (i a n : Int) (h : a ≤ i) (h1 : i - a < n) : F.inF i a n = true := by unfold F.inF; rw [decide_eq_true h, decide_eq_true h1]; rfl
theorem F.inF_no (i a n : Int) (h : ¬ (a ≤ i ∧ i - a < n)) : F.inF i a n = false := by
  unfold F.inF
  by_cases h1 : a ≤ i
  · rw [decide_eq_true h1, decide_eq_false (by omega)]; rfl
  · rw [decide_eq_false h1]; rfl
set_option maxHeartbeats 400000 in
theorem rin_any (i a n : Int) (hi : 0 ≤ i) (hi' : i < 32) (ha0 : -9223372036854775808 ≤ a) (ha1 : a ≤ 9223372036854775807) (hn1 : n ≤ 9223372036854775807) (w : World) :
    Calls Try.prog 19 #[.int .i64 i, .int .i64 a, .int .i64 n] w fun e w' => e = .returned (.bool (F.inF i a n)) ∧ w = w' := by
  by_cases hin : a ≤ i ∧ i - a < n
  · have E := Lib.hid (F.inF_yes i a n hin.1 hin.2)
    have h1 := hin.1
    have h2 := hin.2
    clear hin
    go_enter Try.func19, Try.ntmps19
    go_wp2
    go_ret
    exact r1b (by rw [E.out])
  · have E := Lib.hid (F.inF_no i a n hin)
    go_enter Try.func19, Try.ntmps19
    go_wp2
    all_goals go_ret
    all_goals first
      | exact r1b E.out.symm
      | exact r1b (by rw [E.out]; rw [decide_eq_false_iff_not]; rename_i h1 h2 h3; revert h1 h2 h3; unfold wrap64; omega)
theorem F.bit01 (x : Int) (hx0 : 0 ≤ x) (hx1 : x < 4294967296) (m : Nat) : bits .and .u32 (x / 2 ^ m) 1 = 1 ∨ bits .and .u32 (x / 2 ^ m) 1 = 0 := by
  obtain ⟨X, rfl⟩ := Int.eq_ofNat_of_zero_le hx0
  rw [F.bit_one X m (by omega)]
  split
  · exact Or.inl rfl
  · exact Or.inr rfl
theorem F.or_none (p : Int) (h0 : 0 ≤ p) (h1 : p < 4294967296) : bits .or .u32 p 0 = p := by
  rw [u32_or p 0 h0 h1 (by decide) (by decide)]; simp; omega
theorem F.g1 (p x k pl : Int) (hp : pl < 32) (hb : bits .and .u32 (x / 2 ^ k.toNat) 1 = 1) : bits .or .u32 p (2 ^ pl.toNat % 4294967296) = F.gval p x k pl := by
  unfold F.gval; rw [hb, Int.one_mul, Nat.min_eq_left (by omega)]
theorem F.g0 (p x k pl : Int) (h0 : 0 ≤ p) (h1 : p < 4294967296) (hb : bits .and .u32 (x / 2 ^ k.toNat) 1 = 0) : p = F.gval p x k pl := by
  unfold F.gval; rw [hb, Int.zero_mul]; exact (F.or_none p h0 h1).symm
theorem F.gfar (p x k pl : Int) (h0 : 0 ≤ p) (h1 : p < 4294967296) (hp : 32 ≤ pl) : p = F.gval p x k pl := by
  unfold F.gval; rw [Nat.min_eq_right (by omega)]
  have e (b : Int) : b * 2 ^ 32 % 4294967296 = 0 := by omega
  rw [e]; exact (F.or_none p h0 h1).symm
theorem F.not_lo (p q : Int) (h0 : 0 ≤ p) (h1 : p < 4294967296) (q0 : 0 ≤ q) (q1 : q < 4294967296) : 0 ≤ bits .andNot .u32 p q ∧ bits .andNot .u32 p q < 4294967296 := by
  rw [u32_andNot p q h0 h1 q0 q1]
  have := Nat.and_le_left (n := p.toNat) (m := 4294967295 - q.toNat)
  omega
theorem F.s1 (p x k pl : Int) (hp : pl < 32) (hb : bits .and .u32 (x / 2 ^ pl.toNat) 1 = 1) : bits .or .u32 (bits .andNot .u32 p (2 ^ k.toNat % 4294967296)) (2 ^ k.toNat % 4294967296) = F.sval p x k pl := by
  unfold F.sval; rw [Nat.min_eq_left (by omega), hb, Int.one_mul]
theorem F.s0 (p x k pl : Int) (h0 : 0 ≤ p) (h1 : p < 4294967296) (hp : pl < 32) (hb : bits .and .u32 (x / 2 ^ pl.toNat) 1 = 0) : bits .andNot .u32 p (2 ^ k.toNat % 4294967296) = F.sval p x k pl := by
  unfold F.sval; rw [Nat.min_eq_left (by omega), hb, Int.zero_mul]
  have := F.not_lo p (2 ^ k.toNat % 4294967296) h0 h1 (by omega) (by omega)
  exact (F.or_none _ this.1 this.2).symm
theorem F.sfar (p x k pl : Int) (h0 : 0 ≤ p) (h1 : p < 4294967296) (hx0 : 0 ≤ x) (hx1 : x < 4294967296) (hp : 32 ≤ pl) : bits .andNot .u32 p (2 ^ k.toNat % 4294967296) = F.sval p x k pl := by
  unfold F.sval; rw [Nat.min_eq_right (by omega)]
  have e : x / 2 ^ 32 = 0 := by omega
  rw [e, show bits .and .u32 0 1 = 0 from by decide, Int.zero_mul]
  have := F.not_lo p (2 ^ k.toNat % 4294967296) h0 h1 (by omega) (by omega)
  exact (F.or_none _ this.1 this.2).symm
set_option maxHeartbeats 1000000 in
theorem rget_any (x a n : Int) (hx0 : 0 ≤ x) (hx1 : x < 4294967296) (ha0 : -9223372036854775808 ≤ a) (ha1 : a ≤ 9223372036854775807) (hn1 : n ≤ 9223372036854775807) (w : World) :
    Calls Try.prog 10 #[.int .u32 x, .int .i64 a, .int .i64 n] w fun e w' => e = .returned (.int .u32 (F.get x a n)) ∧ w = w' := by
  have H0 := Lib.hid (F.get_start x.toNat a n 0 (by omega))
  go_enter Try.func10, Try.ntmps10
  go_wp2_with fail
  go_loop [7, 8] (fun p i => ∃ k : Int, 0 ≤ k ∧ k ≤ 32 ∧ i = .int .i64 k ∧ p = .int .u32 (F.getP x.toNat a n k : Nat)) (fun _ i => (32 - intOf i).toNat)
  case atStart => exact ⟨0, by omega, by omega, rfl, by rw [H0.out]; rfl⟩
  case round =>
    clear H0
    obtain ⟨k, hk0, hk1, rfl, rfl⟩ := hrel
    by_cases hlt : k < 32
    · have hp := F.getP_lt x.toNat a n k
      by_cases hin : a ≤ k ∧ k - a < n
      · have Hs := Lib.hid (F.get_stepI x a n k hx0 hx1 hk0 hlt hin.1 hin.2)
        have C := Lib.hid (fun w => rin_any k a n hk0 hlt ha0 ha1 hn1 w)
        rw [F.inF_yes k a n hin.1 hin.2] at C
        obtain ⟨p, hpv⟩ : ∃ p : Int, (F.getP x.toNat a n k : Nat) = p := ⟨_, rfl⟩
        rw [hpv] at Hs ⊢
        have p0 : 0 ≤ p := by omega
        have p1 : p < 4294967296 := by omega
        have h1 := hin.1
        have h2 := hin.2
        clear hin hp hpv
        by_cases hfar : k - a < 32
        · rcases F.bit01 x hx0 hx1 k.toNat with hb | hb
          · have G := Lib.hid (F.g1 p x k (k - a) hfar hb)
            go_wp2_with fail
            refine (C.out _).mono ?_; rintro e w' ⟨rfl, rfl⟩
            go_wp2_with fail
            go_round
            case rel => exact ⟨k + 1, by omega, by omega, rfl, by rw [← Hs.out, ← G.out]⟩
            case measure => simp [intOf]; omega
          · have G := Lib.hid (F.g0 p x k (k - a) p0 p1 hb)
            go_wp2_with fail
            refine (C.out _).mono ?_; rintro e w' ⟨rfl, rfl⟩
            go_wp2_with fail
            go_round
            case rel => exact ⟨k + 1, by omega, by omega, rfl, by rw [← Hs.out, ← G.out]⟩
            case measure => simp [intOf]; omega
        · have G := Lib.hid (F.gfar p x k (k - a) p0 p1 (by omega))
          go_wp2_with fail
          refine (C.out _).mono ?_; rintro e w' ⟨rfl, rfl⟩
          go_wp2_with fail
          go_round
          case rel => exact ⟨k + 1, by omega, by omega, rfl, by rw [← Hs.out, ← G.out]⟩
          case measure => simp [intOf]; omega
      · obtain ⟨K, rfl⟩ := Int.eq_ofNat_of_zero_le hk0
        have Hs := Lib.hid (F.get_out x.toNat a n K hin)
        have C := Lib.hid (fun w => rin_any K a n hk0 hlt ha0 ha1 hn1 w)
        rw [F.inF_no K a n hin] at C
        go_wp2_with fail
        refine (C.out _).mono ?_; rintro e w' ⟨rfl, rfl⟩
        go_wp2_with fail
        go_round
        case rel => exact ⟨K + 1, by omega, by omega, rfl, by rw [← Hs.out]⟩
        case measure => simp [intOf]; omega
    · obtain rfl : k = 32 := by omega
      go_wp2_with fail
      go_ret
      exact ⟨rfl, rfl⟩
set_option maxHeartbeats 1000000 in
theorem rset_any (y a n x : Int) (hy0 : 0 ≤ y) (hy1 : y < 4294967296) (hx0 : 0 ≤ x) (hx1 : x < 4294967296) (ha0 : -9223372036854775808 ≤ a) (ha1 : a ≤ 9223372036854775807) (hn1 : n ≤ 9223372036854775807) (w : World) :
    Calls Try.prog 12 #[.int .u32 y, .int .i64 a, .int .i64 n, .int .u32 x] w fun e w' => e = .returned (.int .u32 (F.set y a n x)) ∧ w = w' := by
  have H0 := Lib.hid (show ((F.setP y.toNat x.toNat a n 0 : Nat) : Int) = y from by rw [F.set_start y.toNat x.toNat a n 0 (by omega) (by omega), Int.toNat_of_nonneg hy0])
  go_enter Try.func12, Try.ntmps12
  go_wp2_with fail
  go_loop [0, 9] (fun p i => ∃ k : Int, 0 ≤ k ∧ k ≤ 32 ∧ i = .int .i64 k ∧ p = .int .u32 (F.setP y.toNat x.toNat a n k : Nat)) (fun _ i => (32 - intOf i).toNat)
  case atStart => exact ⟨0, by omega, by omega, rfl, by rw [H0.out]⟩
  case round =>
    clear H0
    obtain ⟨k, hk0, hk1, rfl, rfl⟩ := hrel
    by_cases hlt : k < 32
    · have hp := F.setP_lt y.toNat x.toNat a n k
      by_cases hin : a ≤ k ∧ k - a < n
      · have Hs := Lib.hid (F.set_stepI y x a n k hx0 hx1 hk0 hlt hin.1 hin.2)
        have C := Lib.hid (fun w => rin_any k a n hk0 hlt ha0 ha1 hn1 w)
        rw [F.inF_yes k a n hin.1 hin.2] at C
        obtain ⟨p, hpv⟩ : ∃ p : Int, (F.setP y.toNat x.toNat a n k : Nat) = p := ⟨_, rfl⟩
        rw [hpv] at Hs ⊢
        have p0 : 0 ≤ p := by omega
        have p1 : p < 4294967296 := by omega
        have h1 := hin.1
        have h2 := hin.2
        clear hin hp hpv
        by_cases hfar : k - a < 32
        · rcases F.bit01 x hx0 hx1 (k - a).toNat with hb | hb
          · have G := Lib.hid (F.s1 p x k (k - a) hfar hb)
            go_wp2_with fail
            refine (C.out _).mono ?_; rintro e w' ⟨rfl, rfl⟩
            go_wp2_with fail
            go_round
            case rel => exact ⟨k + 1, by omega, by omega, rfl, by rw [← Hs.out, ← G.out]⟩
            case measure => simp [intOf]; omega
          · have G := Lib.hid (F.s0 p x k (k - a) p0 p1 hfar hb)
            go_wp2_with fail
            refine (C.out _).mono ?_; rintro e w' ⟨rfl, rfl⟩
            go_wp2_with fail
            go_round
            case rel => exact ⟨k + 1, by omega, by omega, rfl, by rw [← Hs.out, ← G.out]⟩
            case measure => simp [intOf]; omega
        · have G := Lib.hid (F.sfar p x k (k - a) p0 p1 hx0 hx1 (by omega))
          go_wp2_with fail
          refine (C.out _).mono ?_; rintro e w' ⟨rfl, rfl⟩
          go_wp2_with fail
          go_round
          case rel => exact ⟨k + 1, by omega, by omega, rfl, by rw [← Hs.out, ← G.out]⟩
          case measure => simp [intOf]; omega
      · obtain ⟨K, rfl⟩ := Int.eq_ofNat_of_zero_le hk0
        have Hs := Lib.hid (F.set_out y.toNat x.toNat a n K hin)
        have C := Lib.hid (fun w => rin_any K a n hk0 hlt ha0 ha1 hn1 w)
        rw [F.inF_no K a n hin] at C
        go_wp2_with fail
        refine (C.out _).mono ?_; rintro e w' ⟨rfl, rfl⟩
        go_wp2_with fail
        go_round
        case rel => exact ⟨K + 1, by omega, by omega, rfl, by rw [← Hs.out]⟩
        case measure => simp [intOf]; omega
    · obtain rfl : k = 32 := by omega
      go_wp2_with fail
      go_ret
      exact ⟨rfl, rfl⟩
/-! the same, what is answered under names of the caller's own -/
theorem get_to (x a n r : Int) (hr : F.get x a n = r) (hx0 : 0 ≤ x) (hx1 : x < 4294967296) (ha0 : -9223372036854775808 ≤ a) (ha1 : a ≤ 9223372036854775807) (hn1 : n ≤ 9223372036854775807) (w : World) :
    Calls Try.prog 9 #[.int .u32 x, .int .i64 a, .int .i64 n] w fun e w' => e = .returned (.int .u32 r) ∧ Kept w w' := by
  subst hr; exact get_any x a n hx0 hx1 ha0 ha1 hn1 w
theorem set_to (y a n x r : Int) (hr : F.set y a n x = r) (hy0 : 0 ≤ y) (hy1 : y < 4294967296) (hx0 : 0 ≤ x) (hx1 : x < 4294967296) (ha0 : -9223372036854775808 ≤ a) (ha1 : a ≤ 9223372036854775807) (hn1 : n ≤ 9223372036854775807) (w : World) :
    Calls Try.prog 11 #[.int .u32 y, .int .i64 a, .int .i64 n, .int .u32 x] w fun e w' => e = .returned (.int .u32 r) ∧ Kept w w' := by
  subst hr; exact set_any y a n x hy0 hy1 hx0 hx1 ha0 ha1 hn1 w
theorem fsigned_to (x n r : Int) (hr : F.sgnd x (F.clamp n) = r) (hx0 : 0 ≤ x) (hx1 : x < 4294967296) (w : World) :
    Calls Try.prog 13 #[.int .u32 x, .int .i64 n] w fun e w' => e = .returned (.int .i64 r) ∧ w = w' := by
  subst hr; exact fsigned_any x n hx0 hx1 w
theorem fits_to (v n : Int) (r : Bool) (hr : F.fitsK v (F.clamp n) = r) (w : World) :
    Calls Try.prog 15 #[.int .i64 v, .int .i64 n] w fun e w' => e = .returned (.bool r) ∧ w = w' := by
  subst hr; exact fits_any v n w
set_option maxHeartbeats 400000 in
theorem fshown_any (w : World) : Calls Try.prog 8 #[] w fun e w' => e = .returned (.bool true) ∧ Kept w w' := by
  have C1 := Lib.hid (fun w => get_to 43981 4 8 188 (by decide +kernel) (by decide) (by decide) (by decide) (by decide) (by decide) w)
  have C2 := Lib.hid (fun w => fsigned_to 1048574 20 (-2) (by decide +kernel) (by decide) (by decide) w)
  go_enter Try.func8, Try.ntmps8
  go_wp2_with fail
  refine (C1.out _).mono ?_; rintro e w1 ⟨rfl, hK⟩
  go_wp2_with fail
  refine (C2.out _).mono ?_; rintro e w' ⟨rfl, rfl⟩
  go_wp2_with fail
  go_ret
  exact ⟨rfl, hK⟩
end Go.Proofs.Ytknhobbfclhblaa
