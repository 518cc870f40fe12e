/-
  The walk of the law FieldSigned.
-/
import Derived.Test.YtknhobbfclhblaaField3
import Derived.RowKit3
import Derived.Deep.Cut
namespace Go.Proofs.Ytknhobbfclhblaa
open Go.RowKit
set_option linter.unusedVariables false
theorem yes {a : Bool} {w w' : World} (h : a = true) (g : Grown w w') : Ending.returned (.bool a) = .returned (.bool true) ∧ Grown w w' := ⟨by rw [h], g⟩
theorem F.fits_yes (v k P : Int) (hP : 2 ^ (k.toNat - 1) = P) (h : -P ≤ v) (h' : v < P) : F.fitsK v k = true := by
  unfold F.fitsK; rw [hP, decide_eq_true h, decide_eq_true h']; rfl
theorem F.fits_no (v k P : Int) (hP : 2 ^ (k.toNat - 1) = P) (h : v < -P ∨ P ≤ v) : F.fitsK v k = false := by
  unfold F.fitsK; rw [hP]
  rcases h with h | h
  · rw [decide_eq_false (show ¬ -P ≤ v by omega)]; rfl
  · rw [decide_eq_false (show ¬ v < P by omega), Bool.and_false]
theorem F.sgnd_in (x k P : Int) (hk : 1 ≤ k) (hP : 2 ^ (k.toNat - 1) = P) : -P ≤ F.sgnd x k ∧ F.sgnd x k < P := by
  have e := F.pow_half k hk
  have l := F.half_lo k
  unfold F.sgnd
  rw [e, hP] at *
  have m0 : 0 ≤ x % (2 * P) := Int.emod_nonneg _ (by omega)
  have m1 : x % (2 * P) < 2 * P := Int.emod_lt_of_pos _ (by omega)
  split <;> omega
theorem F.sgnd_back (v k P : Int) (hk : 1 ≤ k) (hk' : k ≤ 32) (hP : 2 ^ (k.toNat - 1) = P) (h : -P ≤ v) (h' : v < P) : F.sgnd (v % 4294967296) k = v := by
  subst hP
  rcases F.cases32 k hk hk' with r | r | r | r | r | r | r | r | r | r | r | r | r | r | r | r | r | r | r | r | r | r | r | r | r | r | r | r | r | r | r | r <;> subst r <;> unfold F.sgnd <;> simp only [Int.reduceToNat, Int.reducePow, Nat.reduceSub] at * <;> split <;> omega
set_option maxRecDepth 100000 in
set_option maxHeartbeats 1000000 in
theorem walk_Signed (x v n : Int) (h0 : 0 ≤ x) (h1 : x < 4294967296) (h2 : -9223372036854775808 ≤ v) (h3 : v ≤ 9223372036854775807) (h4 : 0 ≤ n) (h5 : n < 256) (w : World) :
    Calls Try.prog 5 #[.int .u32 x, .int .i64 v, .int .u8 n] w fun e w' => e = .returned (.bool true) ∧ Grown w w' := by
  have kc := F.clamp_in (1 + n % 32) (by omega) (by omega)
  obtain ⟨P, hP⟩ : ∃ P : Int, 2 ^ ((1 + n % 32).toNat - 1) = P := ⟨_, rfl⟩
  obtain ⟨lo, hlo⟩ : ∃ lo : Int, lo = -P := ⟨_, rfl⟩
  have p0 : 1 ≤ P := hP ▸ F.half_lo _
  have p1 : P ≤ 2147483648 := hP ▸ F.half_hi _ (by omega)
  have l0 : lo ≤ -P := by omega
  have l1 : -P ≤ lo := by omega
  obtain ⟨s, hs⟩ : ∃ s : Int, F.sgnd x (1 + n % 32) = s := ⟨_, rfl⟩
  have si := F.sgnd_in x (1 + n % 32) P (by omega) hP
  have C1 := Lib.hid (fun w => fsigned_to x (1 + n % 32) s (by rw [kc, hs]) h0 h1 w)
  have Y := Lib.hid (fun u w (a : -P ≤ u) (b : u < P) => fits_to u (1 + n % 32) true (by rw [kc]; exact F.fits_yes u _ P hP a b) w)
  have N := Lib.hid (fun u w (a : u < -P ∨ P ≤ u) => fits_to u (1 + n % 32) false (by rw [kc]; exact F.fits_no u _ P hP a) w)
  have C2 := Lib.hid (fun w (a : -P ≤ v) (b : v < P) => fsigned_to (v % 4294967296) (1 + n % 32) v (by rw [kc]; exact F.sgnd_back v _ P (by omega) (by omega) hP a b) (by omega) (by omega) w)
  have e2 := F.fit2 P p0 p1
  have e1 : wrap64 (-2 ^ ((1 + n % 32).toNat - 1)) = lo := by rw [hP, hlo]; exact F.fit3 P p0 p1
  replace e2 : wrap64 (2 ^ ((1 + n % 32).toNat - 1)) = P := by rw [hP]; exact e2
  have s0 : -P ≤ s := hs ▸ si.1
  have s1 : s < P := hs ▸ si.2
  clear hs si hP hlo kc
  rcases (show (v < lo) ∨ (lo ≤ v ∧ v ≤ P - 1) ∨ (P - 1 < v) by clear e1 e2; omega) with hv | ⟨hv, hv'⟩ | hv
  all_goals
    go_enter Try.func5, Try.ntmps5
    go_wp2_with fail
    refine (fshown_any _).mono ?_; rintro e w1 ⟨rfl, hK⟩
    go_wp2_with fail
    refine (C1.out _).mono ?_; rintro e w' ⟨rfl, rfl⟩
    go_wp2_with fail
    refine (Y.out _ _ (by clear e1 e2; omega) (by clear e1 e2; omega)).mono ?_; rintro e w' ⟨rfl, rfl⟩
    go_wp2_with fail
    refine (Y.out _ _ (by clear e1 e2; omega) (by clear e1 e2; omega)).mono ?_; rintro e w' ⟨rfl, rfl⟩
    go_wp2_with fail
    refine (Y.out _ _ (by clear e1 e2; omega) (by clear e1 e2; omega)).mono ?_; rintro e w' ⟨rfl, rfl⟩
    go_wp2_with fail
    refine (N.out _ _ (by clear e1 e2; omega)).mono ?_; rintro e w' ⟨rfl, rfl⟩
    go_wp2_with fail
    refine (N.out _ _ (by clear e1 e2; omega)).mono ?_; rintro e w' ⟨rfl, rfl⟩
    go_wp2_with fail
  · refine (N.out _ _ (by clear e1 e2; omega)).mono ?_; rintro e w' ⟨rfl, rfl⟩
    go_wp2_with fail
    go_ret
    exact yes rfl hK.grown
  · refine (Y.out _ _ (by clear e1 e2; omega) (by clear e1 e2; omega)).mono ?_; rintro e w' ⟨rfl, rfl⟩
    go_wp2_with fail
    refine (C2.out _ (by clear e1 e2; omega) (by clear e1 e2; omega)).mono ?_; rintro e w' ⟨rfl, rfl⟩
    go_wp2_with fail
    go_ret
    exact yes rfl hK.grown
  · refine (N.out _ _ (by clear e1 e2; omega)).mono ?_; rintro e w' ⟨rfl, rfl⟩
    go_wp2_with fail
    go_ret
    exact yes rfl hK.grown
end Go.Proofs.Ytknhobbfclhblaa
