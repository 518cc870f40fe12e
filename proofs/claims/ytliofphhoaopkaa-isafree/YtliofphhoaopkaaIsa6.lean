/-
  The contracts of get, isSet and readImm.
-/
import Derived.Test.YtliofphhoaopkaaIsa2
import Derived.Test.YtliofphhoaopkaaIsa5a
import Derived.Deep.Cut
namespace Go.Proofs.Ytliofphhoaopkaa
open Go.RowKit
set_option linter.unusedVariables false
set_option linter.unusedSimpArgs false
/-- a word -/
def U32 (x : Int) : Prop := 0 ≤ x ∧ x < 4294967296
theorem get_lit (x : Int) (hx : U32 x) (i n D M : Int) (hi : 0 ≤ i) (hi' : i ≤ 32) (hn : 0 ≤ n) (hn' : n ≤ 32) (hD : (2 : Int) ^ i.toNat = D) (hM : (2 : Int) ^ n.toNat = M) (w : World) :
    Calls Try.prog 19 #[.int .u32 x, .int .i64 i, .int .i64 n] w fun e w' => e = .returned (.int .u32 (x / D % M)) ∧ Kept w w' := by
  have h := get_any x i n hx.1 hx.2 (by omega) (by omega) (by omega) w
  rw [F.get_div x i n hx.1 hx.2 hi hn, hD, hM] at h
  exact h
theorem mod_lo (x D M : Int) (hM : 0 < M) : 0 ≤ x / D % M := Int.emod_nonneg _ (by omega)
theorem mod_hi (x D M : Int) (hM : 0 < M) : x / D % M < M := Int.emod_lt_of_pos _ hM
theorem iget_lit (x : Int) (hx : U32 x) (i n D M : Int) (hi : 0 ≤ i) (hi' : i ≤ 32) (hn : 0 ≤ n) (hn' : n ≤ 16) (hD : (2 : Int) ^ i.toNat = D) (hM : (2 : Int) ^ n.toNat = M) (hMl : 0 < M) (hMh : M ≤ 65536) (w : World) :
    Calls Try.prog 37 #[.int .u32 x, .int .i64 i, .int .i64 n] w fun e w' => e = .returned (.int .i64 (x / D % M)) ∧ Kept w w' := by
  have C := Lib.hid (get_lit x hx i n D M hi hi' hn (by omega) hD hM)
  have b0 := mod_lo x D M hMl
  have b1 := mod_hi x D M hMl
  generalize x / D % M = r at *
  clear hD hM
  go_enter Try.func37, Try.ntmps37
  go_wp2_with fail
  refine (C.out _).mono ?_; rintro e w1 ⟨rfl, hK⟩
  go_wp2_with fail
  go_ret
  exact ⟨rfl, hK⟩
theorem isSet_lit (x : Int) (hx : U32 x) (i D : Int) (hi : 0 ≤ i) (hi' : i ≤ 32) (hD : (2 : Int) ^ i.toNat = D) (w : World) :
    Calls Try.prog 39 #[.int .u32 x, .int .i64 i] w fun e w' => e = .returned (.bool (decide (x / D % 2 = 1))) ∧ Kept w w' := by
  have C := Lib.hid (get_lit x hx i 1 D 2 hi hi' (by omega) (by omega) hD rfl)
  generalize x / D % 2 = r at *
  clear hD
  go_enter Try.func39, Try.ntmps39
  go_wp2_with fail
  refine (C.out _).mono ?_; rintro e w1 ⟨rfl, hK⟩
  go_wp2_with fail
  go_ret
  exact ⟨rfl, hK⟩
theorem readImm_any (x : Int) (hx : U32 x) (w : World) :
    Calls Try.prog 38 #[.int .u32 x] w fun e w' => e = .returned (.int .i64 (if x / 268435456 % 2 = 1 then x % 65536 - 65536 else x % 65536)) ∧ Kept w w' := by
  have C := Lib.hid (get_lit x hx 28 1 268435456 2 (by omega) (by omega) (by omega) (by omega) rfl rfl)
  have b0 := mod_lo x 268435456 2 (by omega)
  have b1 := mod_hi x 268435456 2 (by omega)
  generalize x / 268435456 % 2 = s at *
  have HE := F.set16 x s hx.1 hx.2 b0 (by omega)
  generalize (if s = 1 then x % 65536 - 65536 else x % 65536) = r at *
  have HS := Lib.hid (set_any x 16 1 s hx.1 hx.2 b0 (by omega) (by omega) (by omega) (by omega))
  have y0 := F.set_lo x 16 1 s
  have y1 := F.set_hi x 16 1 s
  generalize F.set x 16 1 s = y at *
  have HG := Lib.hid (fun w => show Calls Try.prog 20 #[.int .u32 y, .int .i64 17] w fun e w' => e = .returned (.int .i64 r) ∧ w = w' from HE ▸ fsigned_any y 17 y0 y1 w)
  clear HE
  go_enter Try.func38, Try.ntmps38
  go_wp2_with fail
  refine (C.out _).mono ?_; rintro e w1 ⟨rfl, hK⟩
  go_wp2_with fail
  refine (HS.out _).mono ?_; rintro e w2 ⟨rfl, hK2⟩
  go_wp2_with fail
  refine (HG.out _).mono ?_; rintro e w3 ⟨rfl, rfl⟩
  go_wp2_with fail
  go_ret
  exact ⟨rfl, hK.trans hK2⟩
/-- the number with its sign -/
def I.im (x : Int) : Int := if x / 268435456 % 2 = 1 then x % 65536 - 65536 else x % 65536
theorem sgn_lit (x : Int) (hx : U32 x) (n r : Int) (hr : F.sgnd x (F.clamp n) = r) (w : World) :
    Calls Try.prog 20 #[.int .u32 x, .int .i64 n] w fun e w' => e = .returned (.int .i64 r) ∧ w = w' := hr ▸ fsigned_any x n hx.1 hx.2 w
theorem I.sx20 (x : Int) : F.sgnd x (F.clamp 20) = I.sx 524288 (x % 1048576) := by
  have : F.clamp 20 = 20 := rfl
  rw [this]; unfold F.sgnd I.sx; simp only [Int.reduceToNat, Int.reducePow, Nat.reduceSub]; split <;> omega
theorem I.sx24 (x : Int) : F.sgnd x (F.clamp 24) = I.sx 8388608 (x % 16777216) := by
  have : F.clamp 24 = 24 := rfl
  rw [this]; unfold F.sgnd I.sx; simp only [Int.reduceToNat, Int.reducePow, Nat.reduceSub]; split <;> omega
end Go.Proofs.Ytliofphhoaopkaa
