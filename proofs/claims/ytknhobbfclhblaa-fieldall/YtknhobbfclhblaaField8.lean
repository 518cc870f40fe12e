/-
  The walk of the law FieldParts.
-/
import Derived.Test.YtknhobbfclhblaaField7
namespace Go.Proofs.Ytknhobbfclhblaa
open Go.RowKit
set_option linter.unusedVariables false
/-- a word -/
def U32 (x : Int) : Prop := 0 ≤ x ∧ x < 4294967296
/-- a number of 64 bits -/
def I64 (x : Int) : Prop := -9223372036854775808 ≤ x ∧ x ≤ 9223372036854775807
theorem get_k (x a n r : Int) (hr : F.get x a n = r) (hx : U32 x) (ha : I64 a) (hn : I64 n) {w0 w : World} (hK : Kept w0 w) :
    Calls Try.prog 9 #[.int .u32 x, .int .i64 a, .int .i64 n] w fun e w' => e = .returned (.int .u32 r) ∧ Kept w0 w' := get_kept x a n r hr hx.1 hx.2 ha.1 ha.2 hn.2 hK
theorem set_k (y a n x r : Int) (hr : F.set y a n x = r) (hy : U32 y) (hx : U32 x) (ha : I64 a) (hn : I64 n) {w0 w : World} (hK : Kept w0 w) :
    Calls Try.prog 11 #[.int .u32 y, .int .i64 a, .int .i64 n, .int .u32 x] w fun e w' => e = .returned (.int .u32 r) ∧ Kept w0 w' := set_kept y a n x r hr hy.1 hy.2 hx.1 hx.2 ha.1 ha.2 hn.2 hK
theorem U32.get (x a n : Int) : U32 (F.get x a n) := ⟨F.get_lo _ _ _, F.get_hi _ _ _⟩
theorem U32.set (y a n x : Int) : U32 (F.set y a n x) := ⟨F.set_lo _ _ _ _, F.set_hi _ _ _ _⟩
theorem F.pw (x i m n : Int) (h0 : 0 ≤ x) (h1 : x < 4294967296) (i0 : 0 ≤ i) (m0 : 0 ≤ m) (n0 : 0 ≤ n) (h : i + m + n ≤ 32) :
    (bits .or .u64 (IntKind.u64.wrap (F.get x (i + m) n * 2 ^ m.toNat)) (F.get x i m) == F.get x i (m + n)) = true := by
  rw [beq_iff_eq, ← F.p1 x i m n h0 h1 i0 m0 n0]
  have g1 : F.get x i m < 2 ^ m.toNat := by rw [F.get_div x i m h0 h1 i0 m0]; exact Int.emod_lt_of_pos _ (Int.pow_pos (by decide))
  have g2 := F.get_lo x i m
  have g3 := F.get_lo x (i + m) n
  have g4 := F.get_hi x (i + m) n
  obtain ⟨G, hG⟩ := Int.eq_ofNat_of_zero_le g3
  obtain ⟨L, hL⟩ := Int.eq_ofNat_of_zero_le g2
  obtain ⟨K, rfl⟩ := Int.eq_ofNat_of_zero_le m0
  rw [hG] at g4 ⊢
  rw [hL] at g1 ⊢
  rw [Int.toNat_natCast] at g1 ⊢
  have l1 := F.pow_le32 K (by omega)
  rw [← F.cast_pow] at g1 ⊢
  rw [← Int.natCast_mul]
  have l2 : G * 2 ^ K < 4294967296 * 4294967296 := by
    have a1 : G * 2 ^ K ≤ G * 4294967296 := Nat.mul_le_mul_left _ l1
    omega
  have l3 : L < 2 ^ K := by omega
  have e : IntKind.u64.wrap ((G * 2 ^ K : Nat) : Int) = ((G * 2 ^ K : Nat) : Int) := by
    rw [IntKind.wrap_u64]; generalize G * 2 ^ K = Q at *; omega
  rw [e, u64_or_nat _ _ (by generalize G * 2 ^ K = Q at *; omega) (by omega), nat_join K _ _ (by rw [Nat.mul_mod_left]) l3]
  generalize G * 2 ^ K = Q at *
  omega
set_option maxRecDepth 100000 in
set_option maxHeartbeats 2000000 in
theorem walk_FParts_at (x y z n0 n1 n2 i m n : Int) (hx : U32 x) (hy : U32 y) (hz : U32 z) (h4 : 0 ≤ n0) (h5 : n0 < 256) (h6 : 0 ≤ n1) (h7 : n1 < 256) (h8 : 0 ≤ n2) (h9 : n2 < 256) (hi : n0 % 32 = i) (hm : n1 % (33 - i) = m) (hn : n2 % (33 - i - m) = n)
    (i0 : 0 ≤ i) (i1 : i < 32) (m0 : 0 ≤ m) (m1 : m ≤ 32 - i) (k0 : 0 ≤ n) (k1 : n ≤ 32 - i - m) (w : World) :
    Calls Try.prog 6 #[.int .u32 x, .agg #[.int .u32 y, .int .u32 z], .agg #[.int .u8 n0, .int .u8 n1, .int .u8 n2]] w fun e w' => e = .returned (.bool true) ∧ Grown w w' := by
  have z1 : ((33 : Int) - i == 0) = false := by rw [beq_eq_false_iff_ne]; omega
  have z2 : ((33 : Int) - i - m == 0) = false := by rw [beq_eq_false_iff_ne]; omega
  have hpw := F.pw x i m n hx.1 hx.2 i0 m0 k0 (by omega)
  obtain ⟨al, hal⟩ : ∃ g, F.get x i (m + n) = g := ⟨_, rfl⟩
  obtain ⟨lw, hlw⟩ : ∃ g, F.get x i m = g := ⟨_, rfl⟩
  obtain ⟨hg, hhg⟩ : ∃ g, F.get x (i + m) n = g := ⟨_, rfl⟩
  obtain ⟨s1, hs1⟩ : ∃ g, F.set x i m y = g := ⟨_, rfl⟩
  obtain ⟨s2, hs2⟩ : ∃ g, F.set x (i + m) n z = g := ⟨_, rfl⟩
  obtain ⟨s, hs⟩ : ∃ g, F.set s1 (i + m) n z = g := ⟨_, rfl⟩
  have hs' : F.set s2 i m y = s := by rw [← hs2, ← hs, ← hs1]; exact (F.p2 x y z i m n hx.1 hx.2 i0 m0 k0).symm
  obtain ⟨g1, hg1⟩ : ∃ g, F.get y 0 m = g := ⟨_, rfl⟩
  obtain ⟨g2, hg2⟩ : ∃ g, F.get z 0 n = g := ⟨_, rfl⟩
  have hg1' : F.get s i m = g1 := by rw [← hg1, ← hs, ← hs1]; exact F.p3 x y z i m n hx.1 hx.2 hy.1 hy.2 i0 m0 k0 (by omega)
  have hg2' : F.get s (i + m) n = g2 := by rw [← hg2, ← hs, ← hs1]; exact F.p4 x y z i m n hx.1 hx.2 hz.1 hz.2 i0 m0 k0 (by omega)
  have us1 : U32 s1 := hs1 ▸ U32.set _ _ _ _
  have us2 : U32 s2 := hs2 ▸ U32.set _ _ _ _
  have us : U32 s := hs ▸ U32.set _ _ _ _
  have b1 : 0 ≤ hg := hhg ▸ F.get_lo _ _ _
  have b2 : hg < 4294967296 := hhg ▸ F.get_hi _ _ _
  have b3 : 0 ≤ lw := hlw ▸ F.get_lo _ _ _
  have b4 : lw < 4294967296 := hlw ▸ F.get_hi _ _ _
  have b5 : 0 ≤ al := hal ▸ F.get_lo _ _ _
  have b6 : al < 4294967296 := hal ▸ F.get_hi _ _ _
  rw [hhg, hlw, hal] at hpw
  have hpw' : (bits .or .u64 (IntKind.u64.wrap (IntKind.u64.wrap hg * 2 ^ m.toNat)) (IntKind.u64.wrap lw) == IntKind.u64.wrap al) = true := by
    have e (q : Int) (h : 0 ≤ q) (h' : q < 4294967296) : IntKind.u64.wrap q = q := by rw [IntKind.wrap_u64]; omega
    rw [e hg b1 b2, e lw b3 b4, e al b5 b6]; exact hpw
  clear hpw
  have Gal := Lib.hid hal
  have Glw := Lib.hid hlw
  have Ghg := Lib.hid hhg
  have Ss1 := Lib.hid hs1
  have Ss2 := Lib.hid hs2
  have Ss := Lib.hid hs
  have Ss' := Lib.hid hs'
  have G1 := Lib.hid hg1
  have G2 := Lib.hid hg2
  have G1' := Lib.hid hg1'
  have G2' := Lib.hid hg2'
  have ui : I64 i := ⟨by omega, by omega⟩
  have um : I64 m := ⟨by omega, by omega⟩
  have un : I64 n := ⟨by omega, by omega⟩
  have uim : I64 (i + m) := ⟨by omega, by omega⟩
  have umn : I64 (m + n) := ⟨by omega, by omega⟩
  have u0 : I64 0 := ⟨by omega, by omega⟩
  have HW := Lib.hid (IntWalk.i64_in (i + m) (by omega))
  clear hal hlw hhg hs1 hs2 hs hs' hg1 hg2 hg1' hg2'
  have HC := Lib.hid (fun (w1 : World) (h : Kept ((w.alloc (.cells #[.int .u32 y, .int .u32 z] 33)).alloc (.cells #[.int .u8 n0, .int .u8 n1, .int .u8 n2] 34)) w1) =>
    (show (w1.cell? ⟨w.heap.size, 0, none⟩ = some (.int .u32 y) ∧ w1.cell? ⟨w.heap.size, 1, none⟩ = some (.int .u32 z)) from
      ⟨(h.cell (by simp; omega)).trans (by simp), (h.cell (by simp; omega)).trans (by simp)⟩))
  have HB := Lib.hid (((Kept.refl w).alloc #[.int .u32 y, .int .u32 z] 33).alloc #[.int .u8 n0, .int .u8 n1, .int .u8 n2] 34)
  go_enter Try.func6, Try.ntmps6
  go_wp2_with fail
  refine (fshown_any _).mono ?_; rintro e w1 ⟨rfl, hK⟩
  have c0 : w1.cell? ⟨w.heap.size + 1, 0, none⟩ = some (.int .u8 n0) := (hK.cell (by simp)).trans (by simp)
  have c1 : w1.cell? ⟨w.heap.size + 1, 1, none⟩ = some (.int .u8 n1) := (hK.cell (by simp)).trans (by simp)
  have c2 : w1.cell? ⟨w.heap.size + 1, 2, none⟩ = some (.int .u8 n2) := (hK.cell (by simp)).trans (by simp)
  generalize (w.alloc (.cells #[.int .u32 y, .int .u32 z] 33)).alloc (.cells #[.int .u8 n0, .int .u8 n1, .int .u8 n2] 34) = wB at hK HC HB
  go_wp2_with fail
  simp only [hi, hm, hn]
  clear c0 c1 c2 hi hm hn z1 z2
  refine (get_k _ _ _ _ Gal.out hx ui umn hK).mono ?_; rintro e w2 ⟨rfl, hK2⟩
  clear hK
  go_wp2_with fail
  refine (get_k _ _ _ _ Glw.out hx ui um hK2).mono ?_; rintro e w3 ⟨rfl, hK3⟩
  clear hK2
  go_wp2_with fail
  refine (get_k _ _ _ _ Ghg.out hx uim un hK3).mono ?_; rintro e w4 ⟨rfl, hK4⟩
  clear hK3
  have hw := HW.out
  go_wp2_with fail
  go_region_held3 (fun w' => w'.cell? ⟨w.heap.size, 0, none⟩ = some (.int .u32 y) ∧ w'.cell? ⟨w.heap.size, 1, none⟩ = some (.int .u32 z))
    (first | exact HC.out _ (by assumption) | exact HC.out _ (Kept.drew (by assumption)))
    (first
      | (go_at_call 11; refine (set_k _ _ _ _ _ (by first | exact Ss1.out | exact Ss.out | exact Ss2.out | exact Ss'.out) (by assumption) (by assumption) (by assumption) (by assumption) (w0 := wB) (by first | assumption | exact Kept.drew (by assumption))).mono ?_; rintro e w5 ⟨rfl, hK5⟩))
  go_wp2_with fail
  go_region_held3 (fun w' => w'.cell? ⟨w.heap.size, 0, none⟩ = some (.int .u32 y) ∧ w'.cell? ⟨w.heap.size, 1, none⟩ = some (.int .u32 z))
    (first | exact HC.out _ (by assumption) | exact HC.out _ (Kept.drew (by assumption)))
    (first
      | (go_at_call 11; refine (set_k _ _ _ _ _ (by first | exact Ss2.out | exact Ss'.out) (by assumption) (by assumption) (by assumption) (by assumption) (w0 := wB) (by first | assumption | exact Kept.drew (by assumption))).mono ?_; rintro e w5 ⟨rfl, hK5⟩))
  go_wp2_with fail
  go_region_held3 (fun w' => w'.cell? ⟨w.heap.size, 0, none⟩ = some (.int .u32 y) ∧ w'.cell? ⟨w.heap.size, 1, none⟩ = some (.int .u32 z))
    (first | exact HC.out _ (by assumption) | exact HC.out _ (Kept.drew (by assumption)))
    (first
      | (go_at_call 9; refine (get_k _ _ _ _ (by first | exact G1.out | exact G1'.out | exact G2.out | exact G2'.out) (by assumption) (by assumption) (by assumption) (w0 := wB) (by first | assumption | exact Kept.drew (by assumption))).mono ?_; rintro e w5 ⟨rfl, hK5⟩))
  go_wp2_with fail
  go_ret
  exact yes rfl (HB.out.trans (by assumption)).grown
theorem walk_FParts (x y z n0 n1 n2 : Int) (h0 : 0 ≤ x) (h1 : x < 4294967296) (h2 : 0 ≤ y) (h3 : y < 4294967296) (hz0 : 0 ≤ z) (hz1 : z < 4294967296) (h4 : 0 ≤ n0) (h5 : n0 < 256) (h6 : 0 ≤ n1) (h7 : n1 < 256) (h8 : 0 ≤ n2) (h9 : n2 < 256) (w : World) :
    Calls Try.prog 6 #[.int .u32 x, .agg #[.int .u32 y, .int .u32 z], .agg #[.int .u8 n0, .int .u8 n1, .int .u8 n2]] w fun e w' => e = .returned (.bool true) ∧ Grown w w' := by
  have b := mod_bd n0 n1 h4 h6
  have c0 : 0 ≤ n2 % (33 - n0 % 32 - n1 % (33 - n0 % 32)) := Int.emod_nonneg _ (by omega)
  have c1 := Int.emod_lt_of_pos n2 (show 0 < 33 - n0 % 32 - n1 % (33 - n0 % 32) by omega)
  exact walk_FParts_at x y z n0 n1 n2 _ _ _ ⟨h0, h1⟩ ⟨h2, h3⟩ ⟨hz0, hz1⟩ h4 h5 h6 h7 h8 h9 rfl rfl rfl (by omega) (by omega) b.1 b.2 c0 (by omega) w
end Go.Proofs.Ytknhobbfclhblaa
