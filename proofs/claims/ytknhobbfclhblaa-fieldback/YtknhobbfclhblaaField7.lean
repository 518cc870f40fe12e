/-
  The walks of the laws FieldBack and FieldShifts.
-/
import Derived.Test.YtknhobbfclhblaaField4
import Derived.Test.YtknhobbfclhblaaField6
import Derived.Deep.Cut
import Derived.Deep.QuietTactic
import Derived.BigQuiet
import Derived.Deep.RegionHeld3
namespace Go.Proofs.Ytknhobbfclhblaa
open Go.RowKit
set_option linter.unusedVariables false
theorem get_kept (x a n r : Int) (hr : F.get x a n = r) (hx0 : 0 ≤ x) (hx1 : x < 4294967296) (ha0 : -9223372036854775808 ≤ a) (ha1 : a ≤ 9223372036854775807) (hn1 : n ≤ 9223372036854775807) {w0 w : World} (hK : Kept w0 w) :
    Calls Try.prog 9 #[.int .u32 x, .int .i64 a, .int .i64 n] w fun e w' => e = .returned (.int .u32 r) ∧ Kept w0 w' :=
  (get_to x a n r hr hx0 hx1 ha0 ha1 hn1 w).mono fun _ _ ⟨h, k⟩ => ⟨h, hK.trans k⟩
theorem set_kept (y a n x r : Int) (hr : F.set y a n x = r) (hy0 : 0 ≤ y) (hy1 : y < 4294967296) (hx0 : 0 ≤ x) (hx1 : x < 4294967296) (ha0 : -9223372036854775808 ≤ a) (ha1 : a ≤ 9223372036854775807) (hn1 : n ≤ 9223372036854775807) {w0 w : World} (hK : Kept w0 w) :
    Calls Try.prog 11 #[.int .u32 y, .int .i64 a, .int .i64 n, .int .u32 x] w fun e w' => e = .returned (.int .u32 r) ∧ Kept w0 w' :=
  (set_to y a n x r hr hy0 hy1 hx0 hx1 ha0 ha1 hn1 w).mono fun _ _ ⟨h, k⟩ => ⟨h, hK.trans k⟩
set_option maxRecDepth 100000 in
set_option maxHeartbeats 1000000 in
theorem walk_FShifts_at (x y n0 n1 i n : Int) (h0 : 0 ≤ x) (h1 : x < 4294967296) (h2 : 0 ≤ y) (h3 : y < 4294967296) (h4 : 0 ≤ n0) (h5 : n0 < 256) (h6 : 0 ≤ n1) (h7 : n1 < 256) (hi : n0 % 32 = i) (hn : n1 % (33 - i) = n) (i0 : 0 ≤ i) (i1 : i < 32) (m0 : 0 ≤ n) (m1 : n ≤ 32 - i) (w : World) :
    Calls Try.prog 7 #[.int .u32 x, .int .u32 y, .agg #[.int .u8 n0, .int .u8 n1]] w fun e w' => e = .returned (.bool true) ∧ Grown w w' := by
  have z : ((33 : Int) - i == 0) = false := by rw [beq_eq_false_iff_ne]; omega
  obtain ⟨g, hg⟩ : ∃ g, F.get x i n = g := ⟨_, rfl⟩
  have HW := Lib.hid ((F.f1 x i n h0 h1 i0 m0 (by omega)).trans hg)
  have C1 := Lib.hid (fun w1 (k : Kept w w1) => get_kept x i n g hg h0 h1 (by omega) (by omega) (by omega) k)
  have C2 := Lib.hid (fun w1 (k : Kept w w1) => get_kept x 0 32 x (F.f2 x h0 h1) h0 h1 (by omega) (by omega) (by omega) k)
  have C3 := Lib.hid (fun w1 (k : Kept w w1) => set_kept x 0 32 y y (F.f3 x y h0 h1 h2 h3) h0 h1 h2 h3 (by omega) (by omega) (by omega) k)
  have C4 := Lib.hid (fun w1 (k : Kept w w1) => get_kept x i 0 0 (F.f4 x i h0 h1 i0) h0 h1 (by omega) (by omega) (by omega) k)
  have C5 := Lib.hid (fun w1 (k : Kept w w1) => set_kept x i 0 y x (F.f5 x i y h0 h1 i0) h0 h1 h2 h3 (by omega) (by omega) (by omega) k)
  have C6 := Lib.hid (fun w1 (k : Kept w w1) => get_kept x 32 n 0 (F.f6 x n h0 h1 m0) h0 h1 (by omega) (by omega) (by omega) k)
  have C7 := Lib.hid (fun w1 (k : Kept w w1) => set_kept x (-n) n y x (F.f7 x n y h0 h1) h0 h1 h2 h3 (by omega) (by omega) (by omega) k)
  clear hg
  go_enter Try.func7, Try.ntmps7
  go_wp2_with fail
  refine (fshown_any _).mono ?_; rintro e w1 ⟨rfl, hK⟩
  have c0 : w1.cell? ⟨w.heap.size, 0, none⟩ = some (.int .u8 n0) := (hK.cell (by simp)).trans (by simp)
  have c1 : w1.cell? ⟨w.heap.size, 1, none⟩ = some (.int .u8 n1) := (hK.cell (by simp)).trans (by simp)
  replace hK : Kept w w1 := ((Kept.refl w).alloc _ _).trans hK
  go_wp2_with fail
  go_quiet (fail)
  clear c0 c1
  go_wp2_with fail
  simp only [hn, hi, HW.out]
  clear hi hn HW z
  refine (C1.out _ (hK.drewN _)).mono ?_; rintro e w2 ⟨rfl, hK2⟩
  go_wp2_with fail
  refine (C2.out _ hK2).mono ?_; rintro e w3 ⟨rfl, hK3⟩
  go_wp2_with fail
  refine (C3.out _ hK3).mono ?_; rintro e w4 ⟨rfl, hK4⟩
  go_wp2_with fail
  refine (C4.out _ hK4).mono ?_; rintro e w5 ⟨rfl, hK5⟩
  go_wp2_with fail
  refine (C5.out _ hK5).mono ?_; rintro e w6 ⟨rfl, hK6⟩
  go_wp2_with fail
  refine (C6.out _ hK6).mono ?_; rintro e w7 ⟨rfl, hK7⟩
  go_wp2_with fail
  refine (C7.out _ hK7).mono ?_; rintro e w8 ⟨rfl, hK8⟩
  go_wp2_with fail
  go_ret
  exact yes rfl hK8.grown
theorem mod_bd (n0 n1 : Int) (h4 : 0 ≤ n0) (h6 : 0 ≤ n1) : 0 ≤ n1 % (33 - n0 % 32) ∧ n1 % (33 - n0 % 32) ≤ 32 - n0 % 32 :=
  ⟨Int.emod_nonneg _ (by omega), by have := Int.emod_lt_of_pos n1 (show 0 < 33 - n0 % 32 by omega); omega⟩
theorem walk_FShifts (x y n0 n1 : Int) (h0 : 0 ≤ x) (h1 : x < 4294967296) (h2 : 0 ≤ y) (h3 : y < 4294967296) (h4 : 0 ≤ n0) (h5 : n0 < 256) (h6 : 0 ≤ n1) (h7 : n1 < 256) (w : World) :
    Calls Try.prog 7 #[.int .u32 x, .int .u32 y, .agg #[.int .u8 n0, .int .u8 n1]] w fun e w' => e = .returned (.bool true) ∧ Grown w w' :=
  walk_FShifts_at x y n0 n1 _ _ h0 h1 h2 h3 h4 h5 h6 h7 rfl rfl (by omega) (by omega) (mod_bd n0 n1 h4 h6).1 (mod_bd n0 n1 h4 h6).2 w
set_option maxRecDepth 100000 in
set_option maxHeartbeats 1000000 in
theorem walk_FBack_at (x y n0 n1 a k : Int) (h0 : 0 ≤ x) (h1 : x < 4294967296) (h2 : 0 ≤ y) (h3 : y < 4294967296) (h4 : 0 ≤ n0) (h5 : n0 < 256) (h6 : 0 ≤ n1) (h7 : n1 < 256) (ha : n0 % 32 = a) (hk : n1 % (33 - a) = k) (a0 : 0 ≤ a) (a1 : a < 32) (k0 : 0 ≤ k) (k1 : k ≤ 32 - a) (w : World)
    (M s g : Int) (s0 : 0 ≤ s) (s1 : s < 4294967296) (g0 : 0 ≤ g) (g1 : g < 4294967296)
    (hM : (2 ^ k.toNat % 4294967296 - 1) % 4294967296 = M) (hs : F.set x a k y = s) (hg : F.get x a k = g)
    (t1 : (F.get s a k == bits .and .u32 y M) = true)
    (t2 : (bits .andNot .u32 s (IntKind.u32.wrap (M * 2 ^ a.toNat)) == bits .andNot .u32 x (IntKind.u32.wrap (M * 2 ^ a.toNat))) = true)
    (t3 : (F.set x a k g == x) = true) (t4 : (F.get s 0 a == F.get x 0 a) = true) :
    Calls Try.prog 4 #[.int .u32 x, .int .u32 y, .agg #[.int .u8 n0, .int .u8 n1]] w fun e w' => e = .returned (.bool true) ∧ Grown w w' := by
  have HM := Lib.hid hM
  clear hM
  have z : ((33 : Int) - a == 0) = false := by rw [beq_eq_false_iff_ne]; omega
  go_enter Try.func4, Try.ntmps4
  go_wp2_with fail
  refine (fshown_any _).mono ?_; rintro e w1 ⟨rfl, hK⟩
  have c0 : w1.cell? ⟨w.heap.size, 0, none⟩ = some (.int .u8 n0) := (hK.cell (by simp)).trans (by simp)
  have c1 : w1.cell? ⟨w.heap.size, 1, none⟩ = some (.int .u8 n1) := (hK.cell (by simp)).trans (by simp)
  replace hK : Kept w w1 := ((Kept.refl w).alloc _ _).trans hK
  go_wp2_with fail
  refine (set_kept _ _ _ _ _ rfl (by omega) (by omega) (by omega) (by omega) (by omega) (by omega) (by omega) hK).mono ?_; rintro e w2 ⟨rfl, hK2⟩
  clear c0 c1
  go_upto_region 6 with (fail)
  simp only [HM.out, hs, ha, hk]
  clear hk ha hs HM z hK
  go_region_held3 (fun _ => True) (trivial)
    (first
      | (go_at_call 9; refine (get_kept _ _ _ _ rfl (by omega) (by omega) (by omega) (by omega) (by omega) (w0 := w) (by first | assumption | exact Kept.drew (by assumption))).mono ?_; rintro e w3 ⟨rfl, hK3⟩)
      | (go_at_call 11; refine (set_kept _ _ _ _ _ rfl (by omega) (by omega) (by omega) (by omega) (by omega) (by omega) (by omega) (w0 := w) (by first | assumption | exact Kept.drew (by assumption))).mono ?_; rintro e w3 ⟨rfl, hK3⟩))
  go_wp2_with fail
  go_ret
  exact yes rfl (Kept.grown (by assumption))
theorem walk_FBack (x y n0 n1 : Int) (h0 : 0 ≤ x) (h1 : x < 4294967296) (h2 : 0 ≤ y) (h3 : y < 4294967296) (h4 : 0 ≤ n0) (h5 : n0 < 256) (h6 : 0 ≤ n1) (h7 : n1 < 256) (w : World) :
    Calls Try.prog 4 #[.int .u32 x, .int .u32 y, .agg #[.int .u8 n0, .int .u8 n1]] w fun e w' => e = .returned (.bool true) ∧ Grown w w' := by
  have b := mod_bd n0 n1 h4 h6
  refine walk_FBack_at x y n0 n1 _ _ h0 h1 h2 h3 h4 h5 h6 h7 rfl rfl (by omega) (by omega) b.1 b.2 w _ _ _ (F.set_lo _ _ _ _) (F.set_hi _ _ _ _) (F.get_lo _ _ _) (F.get_hi _ _ _) rfl rfl rfl ?_ ?_ ?_ ?_
  · rw [beq_iff_eq]; exact F.t1 x y _ _ _ h0 h1 h2 h3 (by omega) b.1 b.2 rfl
  · rw [beq_iff_eq]; exact F.t2 x y _ _ _ h0 h1 h2 h3 (by omega) b.1 b.2 rfl
  · rw [beq_iff_eq]; exact F.t3 x _ _ h0 h1 (by omega) b.1
  · rw [beq_iff_eq]; exact F.t4 x y _ _ h0 h1 (by omega) b.1
end Go.Proofs.Ytknhobbfclhblaa
