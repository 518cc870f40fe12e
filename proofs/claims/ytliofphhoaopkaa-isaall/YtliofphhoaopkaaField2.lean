/-
  The contracts of package field, and of the document's own answers for it.
-/
import Derived.Test.YtliofphhoaopkaaField1
namespace Go.Proofs.Ytliofphhoaopkaa
open Go.RowKit
set_option linter.unusedVariables false
set_option linter.unusedSimpArgs false
set_option maxHeartbeats 400000 in
theorem get_any (x a n : Int) (hx0 : 0 ≤ x) (hx1 : x < 4294967296) (ha0 : -9223372036854775808 ≤ a) (ha1 : a ≤ 9223372036854775807) (hn1 : n ≤ 9223372036854775807) (w : World) :
    Calls Try.prog 19 #[.int .u32 x, .int .i64 a, .int .i64 n] w fun e w' => e = .returned (.int .u32 (F.get x a n)) ∧ Kept w w' := by
  have hmf : ∀ (fn : Fn) (first cap : Array Value) (w : World), (Instr.makeFunc fn first cap).run Try.prog w = .ok (.func fn first cap) w := fun _ _ _ _ => rfl
  have T0 := Lib.hid (show Two (w.heap.size + 1) w.heap.size 0 x ((w.alloc (.cells #[.int .u32 x] 24)).alloc (.cells #[.int .u32 0] 24)) from
    ⟨by have := heap_alloc_last (w.alloc (.cells #[.int .u32 x] 24)) (.cells #[.int .u32 0] 24); simpa using this, heap_alloc_keep (heap_alloc_last w _) _, by omega⟩)
  have K0 := Lib.hid ((((Kept.refl w).alloc #[.int .u32 x] 24).alloc #[.int .u32 0] 24))
  go_enter Try.func19, Try.ntmps19
  go_wp2_with fail
  refine (eachGet_any a n x w.heap.size _ _ ha0 ha1 hn1 hx0 hx1 (by omega) _ T0.out).mono ?_
  rintro e w2 ⟨rfl, hT, hK⟩
  have K2 := Lib.hid (K0.out.transB hK (Nat.le_refl _))
  have c1 := cell_of_one hT.hp
  clear hT hK K0 T0
  go_wp2_with fail
  go_ret
  exact ⟨rfl, K2.out⟩
set_option maxHeartbeats 400000 in
theorem set_any (y a n x : Int) (hy0 : 0 ≤ y) (hy1 : y < 4294967296) (hx0 : 0 ≤ x) (hx1 : x < 4294967296) (ha0 : -9223372036854775808 ≤ a) (ha1 : a ≤ 9223372036854775807) (hn1 : n ≤ 9223372036854775807) (w : World) :
    Calls Try.prog 44 #[.int .u32 y, .int .i64 a, .int .i64 n, .int .u32 x] w fun e w' => e = .returned (.int .u32 (F.set y a n x)) ∧ Kept w w' := by
  have hmf : ∀ (fn : Fn) (first cap : Array Value) (w : World), (Instr.makeFunc fn first cap).run Try.prog w = .ok (.func fn first cap) w := fun _ _ _ _ => rfl
  have T0 := Lib.hid (show Two w.heap.size (w.heap.size + 1) y x ((w.alloc (.cells #[.int .u32 y] 24)).alloc (.cells #[.int .u32 x] 24)) from
    ⟨heap_alloc_keep (heap_alloc_last w _) _, by have := heap_alloc_last (w.alloc (.cells #[.int .u32 y] 24)) (.cells #[.int .u32 x] 24); simpa using this, by omega⟩)
  have K0 := Lib.hid ((((Kept.refl w).alloc #[.int .u32 y] 24).alloc #[.int .u32 x] 24))
  go_enter Try.func44, Try.ntmps44
  go_wp2_with fail
  refine (eachSet_any a n y x w.heap.size _ _ ha0 ha1 hn1 hy0 hy1 hx0 hx1 (by omega) _ T0.out).mono ?_
  rintro e w2 ⟨rfl, hT, hK⟩
  have K2 := Lib.hid (K0.out.transB hK (Nat.le_refl _))
  have c1 := cell_of_one hT.hp
  clear hT hK K0 T0
  go_wp2_with fail
  go_ret
  exact ⟨rfl, K2.out⟩
set_option maxHeartbeats 400000 in
theorem bounded_any (n : Int) (w : World) :
    Calls Try.prog 33 #[.int .i64 n] w fun e w' => e = .returned (.int .i64 (F.clamp n)) ∧ w = w' := by
  rcases (show n < 1 ∨ 32 < n ∨ (1 ≤ n ∧ n ≤ 32) by omega) with h | h | ⟨h, h'⟩
  · have E := Lib.hid (F.clamp_1 n h)
    go_enter Try.func33, Try.ntmps33
    go_wp2
    go_ret
    exact r1 E.out.symm
  · have E := Lib.hid (F.clamp_32 n h)
    go_enter Try.func33, Try.ntmps33
    go_wp2
    go_ret
    exact r1 E.out.symm
  · have E := Lib.hid (F.clamp_in n h h')
    go_enter Try.func33, Try.ntmps33
    go_wp2
    go_ret
    exact r1 E.out.symm
set_option maxHeartbeats 400000 in
theorem fsigned_any (x n : Int) (hx0 : 0 ≤ x) (hx1 : x < 4294967296) (w : World) :
    Calls Try.prog 20 #[.int .u32 x, .int .i64 n] w fun e w' => e = .returned (.int .i64 (F.sgnd x (F.clamp n))) ∧ w = w' := by
  have k0 := F.clamp_lo n
  have k1 := F.clamp_hi n
  have C := Lib.hid (fun w => bounded_any n w)
  generalize F.clamp n = k at *
  go_enter Try.func20, Try.ntmps20
  go_wp2_with fail
  refine (C.out _).mono ?_; rintro e w' ⟨rfl, rfl⟩
  go_wp2_with fail
  go_ret
  exact r1 (F.sgnd_shift x k hx0 hx1 k0 k1)
theorem F.fit1 (P : Int) (h : 1 ≤ P) (h' : P ≤ 2147483648) : wrap64 (-wrap64 P) = -P := by unfold wrap64; omega
theorem F.fit2 (P : Int) (h : 1 ≤ P) (h' : P ≤ 2147483648) : wrap64 P = P := by unfold wrap64; omega
theorem F.fit3 (P : Int) (h : 1 ≤ P) (h' : P ≤ 2147483648) : wrap64 (-P) = -P := by unfold wrap64; omega
set_option maxHeartbeats 400000 in
theorem fits_any (v n : Int) (w : World) :
    Calls Try.prog 43 #[.int .i64 v, .int .i64 n] w fun e w' => e = .returned (.bool (F.fitsK v (F.clamp n))) ∧ w = w' := by
  have k0 := F.clamp_lo n
  have k1 := F.clamp_hi n
  have C := Lib.hid (fun w => bounded_any n w)
  generalize F.clamp n = k at *
  have E1 := Lib.hid (F.fit1 _ (F.half_lo k) (F.half_hi k k1))
  have E2 := Lib.hid (F.fit2 _ (F.half_lo k) (F.half_hi k k1))
  go_enter Try.func43, Try.ntmps43
  go_wp2_with fail
  refine (C.out _).mono ?_; rintro e w' ⟨rfl, rfl⟩
  go_wp2_with fail
  all_goals go_ret
  · rename_i h
    rw [E1.out] at h
    exact r1b (by rw [E2.out]; unfold F.fitsK; rw [decide_eq_true h]; rfl)
  · rename_i h
    rw [E1.out] at h
    exact r1b (by unfold F.fitsK; rw [decide_eq_false (by omega)]; rfl)
set_option maxHeartbeats 400000 in
theorem rsgnd_any (x n : Int) (hx0 : 0 ≤ x) (hx1 : x < 4294967296) (w : World) :
    Calls Try.prog 40 #[.int .u32 x, .int .i64 n] w fun e w' => e = .returned (.int .i64 (F.sgnd x (F.clamp n))) ∧ w = w' := by
  rcases (show n < 1 ∨ 32 < n ∨ (1 ≤ n ∧ n ≤ 32) by omega) with h | h | ⟨h, h'⟩
  · have E := Lib.hid (F.clamp_1 n h)
    go_enter Try.func40, Try.ntmps40
    go_wp2
    all_goals go_ret
    all_goals exact r1 (by rw [E.out]; unfold F.sgnd; simp only [Int.reduceToNat, Int.reducePow, Nat.reduceSub]; split <;> omega)
  · have E := Lib.hid (F.clamp_32 n h)
    go_enter Try.func40, Try.ntmps40
    go_wp2
    all_goals go_ret
    all_goals exact r1 (by rw [E.out]; unfold F.sgnd; simp only [Int.reduceToNat, Int.reducePow, Nat.reduceSub]; split <;> omega)
  · have E := Lib.hid (F.clamp_in n h h')
    have hw1 : wrap64 (2 ^ n.toNat) = 2 ^ n.toNat := by
      have := F.pow_half n h; have := F.half_lo n; have := F.half_hi n h'; unfold wrap64; omega
    have hw2 : wrap64 (2 ^ (n.toNat - 1)) = 2 ^ (n.toNat - 1) := F.fit2 _ (F.half_lo n) (F.half_hi n h')
    obtain ⟨Q, hQ⟩ : ∃ Q : Int, 2 ^ n.toNat = Q := ⟨_, rfl⟩
    obtain ⟨P, hP⟩ : ∃ Q : Int, 2 ^ (n.toNat - 1) = Q := ⟨_, rfl⟩
    have p0 : 1 ≤ P := hP ▸ F.half_lo n
    have p1 : P ≤ 2147483648 := hP ▸ F.half_hi n h'
    have q0 : Q ≤ 2 * P := by have := F.pow_half n h; omega
    have q1 : 2 * P ≤ Q := by have := F.pow_half n h; omega
    have m0 : 0 ≤ x % Q := Int.emod_nonneg _ (by omega)
    have m1 : x % Q < Q := Int.emod_lt_of_pos _ (by omega)
    have S : F.sgnd x n = if x % Q < P then x % Q else x % Q - Q := by unfold F.sgnd; rw [hQ, hP]
    have HS := Lib.hid S
    have z : (Q == 0) = false := by rw [beq_eq_false_iff_ne]; clear hw1 hw2 HS S hQ hP; omega
    replace hw1 : wrap64 (2 ^ n.toNat) = Q := hw1.trans hQ
    replace hw2 : wrap64 (2 ^ (n.toNat - 1)) = P := hw2.trans hP
    clear S hQ hP
    go_enter Try.func40, Try.ntmps40
    go_wp2
    all_goals go_ret
    all_goals clear hw1 hw2
    · rename_i g
      exact r1 (by rw [E.out, HS.out, if_neg (by omega)])
    · rename_i g
      exact r1 (by rw [E.out, HS.out, if_pos (by omega)])
set_option maxHeartbeats 400000 in
theorem rfits_any (v n : Int) (w : World) :
    Calls Try.prog 30 #[.int .i64 v, .int .i64 n] w fun e w' => e = .returned (.bool (F.fitsK v (F.clamp n))) ∧ w = w' := by
  rcases (show n < 1 ∨ 32 < n ∨ (1 ≤ n ∧ n ≤ 32) by omega) with h | h | ⟨h, h'⟩
  · have E := Lib.hid (F.clamp_1 n h)
    go_enter Try.func30, Try.ntmps30
    go_wp2
    all_goals go_ret
    all_goals exact r1b (by rw [E.out]; unfold F.fitsK; simp only [wrap64, Int.reduceToNat, Int.reducePow, Nat.reduceSub] at *; simp; omega)
  · have E := Lib.hid (F.clamp_32 n h)
    go_enter Try.func30, Try.ntmps30
    go_wp2
    all_goals go_ret
    all_goals exact r1b (by rw [E.out]; unfold F.fitsK; simp only [wrap64, Int.reduceToNat, Int.reducePow, Nat.reduceSub] at *; simp; omega)
  · have E := Lib.hid (F.clamp_in n h h')
    have E1 := Lib.hid (F.fit3 _ (F.half_lo n) (F.half_hi n h'))
    have E2 := Lib.hid (F.fit2 _ (F.half_lo n) (F.half_hi n h'))
    go_enter Try.func30, Try.ntmps30
    go_wp2
    all_goals go_ret
    · rename_i g
      rw [E1.out] at g
      exact r1b (by rw [E2.out, E.out]; unfold F.fitsK; rw [decide_eq_true g]; rfl)
    · rename_i g
      rw [E1.out] at g
      exact r1b (by rw [E.out]; unfold F.fitsK; rw [decide_eq_false (by omega)]; rfl)
end Go.Proofs.Ytliofphhoaopkaa
