/-
  The contracts of package word: what each call answers; none touches the world.
-/
import Derived.Test.YtghjdpmijnlhjaaRows
import Derived.Test.YtghjdpmijnlhjaaWord0
import Derived.WalkKit
import Derived.WalkSpells
import Derived.WalkLawsBesides
import Derived.Lib.Hide
namespace Go.Proofs.Ytghjdpmijnlhjaa
open Go.RowKit
set_option linter.unusedVariables false
set_option linter.unusedSimpArgs false

theorem ret1 {k : IntKind} {a b : Int} {w : World} (h : a = b) : Ending.returned (.int k a) = .returned (.int k b) ∧ w = w := ⟨by rw [h], rfl⟩
theorem ret1b {a b : Bool} {w : World} (h : a = b) : Ending.returned (.bool a) = .returned (.bool b) ∧ w = w := ⟨by rw [h], rfl⟩
theorem ret3 {k : IntKind} {a b : Int} {c d e f : Bool} {w : World} (h : a = b) (h1 : c = d) (h2 : e = f) :
    Ending.returned (.tuple #[.int k a, .bool c, .bool e]) = .returned (.tuple #[.int k b, .bool d, .bool f]) ∧ w = w := ⟨by rw [h, h1, h2], rfl⟩
theorem ret3i {k l : IntKind} {a b c d : Int} {e f : Bool} {w : World} (h : a = b) (h1 : c = d) (h2 : e = f) :
    Ending.returned (.tuple #[.int k a, .int l c, .bool e]) = .returned (.tuple #[.int k b, .int l d, .bool f]) ∧ w = w := ⟨by rw [h, h1, h2], rfl⟩
theorem ret3iw {k l : IntKind} {a b c d : Int} {e f : Bool} {w : World} (h : a = b) (h1 : c = d) (h2 : e = f) :
    Ending.returned (.tuple #[.int k a, .int l c, .bool e]) = .returned (.tuple #[.int k b, .int l d, .bool f]) ∧ w = w := ⟨by rw [h, h1, h2], rfl⟩
theorem ret2i {k l : IntKind} {a b c d : Int} {w : World} (h : a = b) (h1 : c = d) :
    Ending.returned (.tuple #[.int k a, .int l c]) = .returned (.tuple #[.int k b, .int l d]) ∧ w = w := ⟨by rw [h, h1], rfl⟩

set_option maxHeartbeats 400000 in
theorem unit_any (c : Bool) (w : World) :
    Calls Try.prog 65 #[.bool c] w fun e w' => e = .returned (.int .i64 (W.one c)) ∧ w = w' := by
  cases c
  all_goals
    go_enter Try.func65, Try.ntmps65
    go_wp2
    go_ret
    exact ret1 rfl
set_option maxHeartbeats 400000 in
theorem isSigned_any (x : Int) (w : World) :
    Calls Try.prog 66 #[.int .i64 x] w fun e w' => e = .returned (.bool (W.inS x)) ∧ w = w' := by
  by_cases h : -2147483648 ≤ x
  · go_enter Try.func66, Try.ntmps66
    go_wp2
    go_ret
    exact ret1b (by simp [W.inS, h])
  · go_enter Try.func66, Try.ntmps66
    go_wp2
    go_ret
    exact ret1b (by simp [W.inS]; omega)
set_option maxHeartbeats 400000 in
theorem signed_any (a : Int) (h0 : 0 ≤ a) (h1 : a < 4294967296) (w : World) :
    Calls Try.prog 67 #[.int .u32 a] w fun e w' => e = .returned (.int .i64 (W.sgn a)) ∧ w = w' := by
  go_enter Try.func67, Try.ntmps67
  go_wp2
  go_ret
  exact ret1 (W.wrap_sgn a h0 h1)
set_option maxHeartbeats 400000 in
theorem add_any (a b : Int) (c : Bool) (h0 : 0 ≤ a) (h1 : a < 4294967296) (h2 : 0 ≤ b) (h3 : b < 4294967296) (w : World) :
    Calls Try.prog 56 #[.int .u32 a, .int .u32 b, .bool c] w fun e w' =>
      e = .returned (.tuple #[.int .u32 (W.low (a + b + W.one c)), .bool (W.over (a + b + W.one c)), .bool (!W.inS (W.sgn a + W.sgn b + W.one c))]) ∧ w = w' := by
  have o1 := W.one_lo c
  have o2 := W.one_hi c
  have s1 := W.sgn_lo a h0
  have s2 := W.sgn_hi a h1
  have s3 := W.sgn_lo b h2
  have s4 := W.sgn_hi b h3
  go_enter Try.func56, Try.ntmps56
  go_wp2_with (first
    | (go_at_call 65; refine (unit_any _ _).mono ?_; rintro e w' ⟨rfl, rfl⟩)
    | (go_at_call 67; refine (signed_any _ (by omega) (by omega) _).mono ?_; rintro e w' ⟨rfl, rfl⟩)
    | (go_at_call 66; refine (isSigned_any _ _).mono ?_; rintro e w' ⟨rfl, rfl⟩))
  go_ret3
  exact ret3 rfl rfl rfl
set_option maxHeartbeats 400000 in
theorem sub_any (a b : Int) (c : Bool) (h0 : 0 ≤ a) (h1 : a < 4294967296) (h2 : 0 ≤ b) (h3 : b < 4294967296) (w : World) :
    Calls Try.prog 59 #[.int .u32 a, .int .u32 b, .bool c] w fun e w' =>
      e = .returned (.tuple #[.int .u32 (W.low (a - b - W.one c)), .bool (W.neg (a - b - W.one c)), .bool (!W.inS (W.sgn a - W.sgn b - W.one c))]) ∧ w = w' := by
  have o1 := W.one_lo c
  have o2 := W.one_hi c
  have s1 := W.sgn_lo a h0
  have s2 := W.sgn_hi a h1
  have s3 := W.sgn_lo b h2
  have s4 := W.sgn_hi b h3
  go_enter Try.func59, Try.ntmps59
  go_wp2_with (first
    | (go_at_call 65; refine (unit_any _ _).mono ?_; rintro e w' ⟨rfl, rfl⟩)
    | (go_at_call 67; refine (signed_any _ (by omega) (by omega) _).mono ?_; rintro e w' ⟨rfl, rfl⟩)
    | (go_at_call 66; refine (isSigned_any _ _).mono ?_; rintro e w' ⟨rfl, rfl⟩))
  go_ret3
  exact ret3 rfl rfl rfl
set_option maxHeartbeats 400000 in
theorem mul_any (a b : Int) (u : Bool) (h0 : 0 ≤ a) (h1 : a < 4294967296) (h2 : 0 ≤ b) (h3 : b < 4294967296) (w : World) :
    Calls Try.prog 62 #[.int .u32 a, .int .u32 b, .bool u] w fun e w' =>
      e = .returned (.tuple #[.int .u32 (W.low (W.prod u a b)), .int .u32 (W.low (W.prod u a b / 4294967296))]) ∧ w = w' := by
  cases u
  · go_enter Try.func62, Try.ntmps62
    go_wp2_with (first
      | (go_at_call 67; refine (signed_any _ (by omega) (by omega) _).mono ?_; rintro e w' ⟨rfl, rfl⟩))
    go_ret2
    exact ret2i (W.wrapS _) (W.wrapS' _)
  · go_enter Try.func62, Try.ntmps62
    go_wp2_with (first
      | (go_at_call 67; refine (signed_any _ (by omega) (by omega) _).mono ?_; rintro e w' ⟨rfl, rfl⟩))
    go_ret2
    exact ret2i (W.wrapU _) (W.wrapU' _)
set_option maxHeartbeats 400000 in
theorem shift_any (k a n : Int) (h0 : 0 ≤ a) (h1 : a < 4294967296) (h2 : 0 ≤ n) (h3 : n < 4294967296) (w : World) :
    Calls Try.prog 47 #[.int .i64 k, .int .u32 a, .int .u32 n] w fun e w' =>
      e = .returned (.int .u32 (W.shift k a n)) ∧ w = w' := by
  have Hm : Hid (((32 - ((n % 32).toNat : Int)).toNat) = 32 - (n % 32).toNat) := Lib.hid (by omega)
  have Hn : Hid ((((n % 32).toNat : Nat) : Int) = n % 32) := Lib.hid (by omega)
  have hlt : (n % 32).toNat < 32 := by omega
  go_enter Try.func47, Try.ntmps47
  go_wp2
  all_goals go_ret
  · rename_i hk
    exact ret1 (by have : k = 1 := by simpa using hk
                   simp only [W.shift, W.shiftN, if_pos this]; rfl)
  · rename_i hk1 hk
    exact ret1 (by have h : k = 2 := by simpa using hk
                   have h' : ¬ k = 1 := by omega
                   simp only [W.shift, W.shiftN, if_neg h', if_pos h, W.sr]
                   rw [W.wrap32_sgn a h0 h1])
  · rename_i hk1 hk2 hk
    exact ret1 (by have h : k = 3 := by simpa using hk
                   have h' : ¬ k = 1 := by omega
                   have h'' : ¬ k = 2 := by omega
                   simp only [W.shift, W.shiftN, if_neg h', if_neg h'', if_pos h]
                   have := W.ro_bits a (n % 32).toNat hlt h0 h1 Hm.out
                   rw [Hn.out] at this
                   exact this)
  · rename_i hk1 hk2 hk
    exact ret1 (by have h : ¬ k = 3 := by simpa using hk
                   have h' : ¬ k = 1 := by simpa using hk1
                   have h'' : ¬ k = 2 := by simpa using hk2
                   simp only [W.shift, W.shiftN, if_neg h', if_neg h'', if_neg h])
set_option maxHeartbeats 400000 in
theorem div_no (a b : Int) (h0 : 0 ≤ a) (h1 : a < 4294967296) (h2 : 0 ≤ b) (h3 : b < 4294967296) (hb : W.sgn b ≤ 0) (w : World) :
    Calls Try.prog 68 #[.int .u32 a, .int .u32 b] w fun e w' =>
      e = .returned (.tuple #[.int .u32 0, .int .u32 0, .bool false]) ∧ w = w' := by
  go_enter Try.func68, Try.ntmps68
  go_wp2_with (first
    | (go_at_call 67; refine (signed_any _ (by omega) (by omega) _).mono ?_; rintro e w' ⟨rfl, rfl⟩))
  go_ret3
  exact ret3i rfl rfl rfl
set_option maxHeartbeats 400000 in
theorem div_yes (a b : Int) (h0 : 0 ≤ a) (h1 : a < 4294967296) (h2 : 0 ≤ b) (h3 : b < 4294967296) (hb : 0 < W.sgn b) (w : World) :
    Calls Try.prog 68 #[.int .u32 a, .int .u32 b] w fun e w' =>
      e = .returned (.tuple #[.int .u32 (W.low (W.sgn a / W.sgn b)), .int .u32 (W.low (W.sgn a % W.sgn b)), .bool true]) ∧ w.drew = w' := by
  have s1 := W.sgn_lo a h0
  have s2 := W.sgn_hi a h1
  have s4 := W.sgn_hi b h3
  have hb1 : (W.sgn b == 0) = false := by simp; omega
  go_enter Try.func68, Try.ntmps68
  go_wp2_with (first
    | (go_at_call 67; refine (signed_any _ (by omega) (by omega) _).mono ?_; rintro e w' ⟨rfl, rfl⟩))
  go_region
  all_goals go_wp2
  all_goals go_ret3
  · rename_i hneg
    exact ret3iw (by rw [W.wrap64_low, (W.quo_neg _ _ hb hneg).1]) (by rw [W.wrap64_low, (W.quo_neg _ _ hb hneg).2]) rfl
  · rename_i hpos
    exact ret3iw (by rw [(W.quo_pos _ _ hb (by omega)).1]; rfl) (by rw [(W.quo_pos _ _ hb (by omega)).2]; rfl) rfl

/-! the same, what is answered under names of the caller's own -/
theorem add_to (a b : Int) (c : Bool) (r : Int) (d v : Bool) (hr : W.low (a + b + W.one c) = r) (hd : W.over (a + b + W.one c) = d) (hv : (!W.inS (W.sgn a + W.sgn b + W.one c)) = v)
    (h0 : 0 ≤ a) (h1 : a < 4294967296) (h2 : 0 ≤ b) (h3 : b < 4294967296) (w : World) :
    Calls Try.prog 56 #[.int .u32 a, .int .u32 b, .bool c] w fun e w' => e = .returned (.tuple #[.int .u32 r, .bool d, .bool v]) ∧ w = w' := by
  subst hr hd hv; exact add_any a b c h0 h1 h2 h3 w
theorem sub_to (a b : Int) (c : Bool) (r : Int) (d v : Bool) (hr : W.low (a - b - W.one c) = r) (hd : W.neg (a - b - W.one c) = d) (hv : (!W.inS (W.sgn a - W.sgn b - W.one c)) = v)
    (h0 : 0 ≤ a) (h1 : a < 4294967296) (h2 : 0 ≤ b) (h3 : b < 4294967296) (w : World) :
    Calls Try.prog 59 #[.int .u32 a, .int .u32 b, .bool c] w fun e w' => e = .returned (.tuple #[.int .u32 r, .bool d, .bool v]) ∧ w = w' := by
  subst hr hd hv; exact sub_any a b c h0 h1 h2 h3 w
theorem mul_to (a b : Int) (u : Bool) (l h : Int) (hl : W.low (W.prod u a b) = l) (hh : W.low (W.prod u a b / 4294967296) = h)
    (h0 : 0 ≤ a) (h1 : a < 4294967296) (h2 : 0 ≤ b) (h3 : b < 4294967296) (w : World) :
    Calls Try.prog 62 #[.int .u32 a, .int .u32 b, .bool u] w fun e w' => e = .returned (.tuple #[.int .u32 l, .int .u32 h]) ∧ w = w' := by
  subst hl hh; exact mul_any a b u h0 h1 h2 h3 w
theorem shift_to (k a n r : Int) (hr : W.shift k a n = r) (h0 : 0 ≤ a) (h1 : a < 4294967296) (h2 : 0 ≤ n) (h3 : n < 4294967296) (w : World) :
    Calls Try.prog 47 #[.int .i64 k, .int .u32 a, .int .u32 n] w fun e w' => e = .returned (.int .u32 r) ∧ w = w' := by
  subst hr; exact shift_any k a n h0 h1 h2 h3 w
theorem div_to (a b q r : Int) (hq : W.low (W.sgn a / W.sgn b) = q) (hr : W.low (W.sgn a % W.sgn b) = r) (hb : 0 < W.sgn b)
    (h0 : 0 ≤ a) (h1 : a < 4294967296) (h2 : 0 ≤ b) (h3 : b < 4294967296) (w : World) :
    Calls Try.prog 68 #[.int .u32 a, .int .u32 b] w fun e w' => e = .returned (.tuple #[.int .u32 q, .int .u32 r, .bool true]) ∧ w.drew = w' := by
  subst hq hr; exact div_yes a b h0 h1 h2 h3 hb w
end Go.Proofs.Ytghjdpmijnlhjaa
