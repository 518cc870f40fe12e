import Derived.BigQuiet
import Derived.Deep.RegionHeld3
import Derived.Lib.Hide
import Derived.Test.YtlmddkciamdldaaRows
import Derived.WalkKit
import Derived.WalkLawsBesides
import Derived.WalkSpells
import Derived.Test.YtlmddkciamdldaaQa
/-
  The contracts of the function literals and of the loop of package field: which variables they turn.
-/
namespace Go.Proofs.Ytlmddkciamdldaa
open Go.RowKit
set_option linter.unusedVariables false
set_option linter.unusedSimpArgs false
set_option maxRecDepth 100000
/-- two variables of a word each, that a function literal has taken -/
structure Two (Bp Bw : Nat) (p x : Int) (w : World) : Prop where
  hp : w.heap[Bp]? = some (.cells #[.int .u32 p] 24 (0, 0))
  hx : w.heap[Bw]? = some (.cells #[.int .u32 x] 24 (0, 0))
  ne : Bw ≠ Bp
theorem Two.store {Bp Bw : Nat} {p x : Int} {w : World} (h : Two Bp Bw p x w) (q : Int) : Two Bp Bw q x (w.setCell ⟨Bp, 0, none⟩ (.int .u32 q)) :=
  ⟨one_setCell h.hp, heap_setCell_keep h.hx h.ne _, h.ne⟩
theorem Two.drew {Bp Bw : Nat} {p x : Int} {w : World} (h : Two Bp Bw p x w) : Two Bp Bw p x w.drew := ⟨h.hp, h.hx, h.ne⟩
set_option maxHeartbeats 400000 in
theorem get1_any (i pl p x : Int) (B Bp Bw : Nat) (hi : 0 ≤ i) (hi' : i < 32) (hp0 : 0 ≤ pl) (hB : B ≤ Bp) (w : World) (h : Two Bp Bw p x w) :
    Calls Try.prog 87 #[.int .i64 i, .int .u64 pl, .pointer (some ⟨Bp, 0, none⟩), .pointer (some ⟨Bw, 0, none⟩)] w fun e w' =>
      e = .returned (.tuple #[]) ∧ Two Bp Bw (F.gval p x i pl) x w' ∧ KeptB B w w' := by
  have c1 := cell_of_one h.hp
  have c2 := cell_of_one h.hx
  have f1 := free_of_one h.hp
  go_enter Try.func87, Try.ntmps87
  go_region
  go_end0
  exact ⟨rfl, (h.store _).drew, ((KeptB.refl B w).setCell hB _).drew⟩
set_option maxHeartbeats 400000 in
theorem set1_any (i pl p x : Int) (B Bp Bw : Nat) (hi : 0 ≤ i) (hi' : i < 32) (hp0 : 0 ≤ pl) (hB : B ≤ Bp) (w : World) (h : Two Bp Bw p x w) :
    Calls Try.prog 55 #[.int .i64 i, .int .u64 pl, .pointer (some ⟨Bp, 0, none⟩), .pointer (some ⟨Bw, 0, none⟩)] w fun e w' =>
      e = .returned (.tuple #[]) ∧ Two Bp Bw (F.sval p x i pl) x w' ∧ KeptB B w w' := by
  have c1 := cell_of_one h.hp
  have c2 := cell_of_one h.hx
  have f1 := free_of_one h.hp
  go_enter Try.func55, Try.ntmps55
  go_region
  go_end0
  exact ⟨rfl, (h.store _).drew, ((KeptB.refl B w).setCell hB _).drew⟩
set_option maxHeartbeats 1000000 in
theorem eachGet_any (a n x : Int) (B Bp Bw : Nat) (ha0 : -9223372036854775808 ≤ a) (ha1 : a ≤ 9223372036854775807) (hn1 : n ≤ 9223372036854775807) (hx0 : 0 ≤ x) (hx1 : x < 4294967296) (hB : B ≤ Bp) (w : World) (h : Two Bp Bw 0 x w) :
    Calls Try.prog 54 #[.int .i64 a, .int .i64 n, .func (.func 87) #[] #[.pointer (some ⟨Bp, 0, none⟩), .pointer (some ⟨Bw, 0, none⟩)]] w fun e w' =>
      e = .returned (.tuple #[]) ∧ Two Bp Bw (F.get x a n) x w' ∧ KeptB B w w' := by
  have hmf : ∀ (fn : Fn) (first cap : Array Value) (w : World), (Instr.makeFunc fn first cap).run Try.prog w = .ok (.func fn first cap) w := fun _ _ _ _ => rfl
  by_cases hn : n < 1
  · have H0 := Lib.hid (show Two Bp Bw (F.get x a n) x w from by rw [F.get, F.get_end x.toNat a n 0 32 (by omega) (by omega), F.get_start x.toNat a n 0 (by omega)]; exact h)
    go_enter Try.func54, Try.ntmps54
    go_wp2
    (try simp only [Exit.inBlock, Exit.then]); refine bodyPost_ret (results_none rfl _ _ _) rfl ?_
    exact ⟨rfl, H0.out, KeptB.refl _ _⟩
  · have hn' : 1 ≤ n := by omega
    rcases (show a < 0 ∨ 0 ≤ a by omega) with hneg | hneg
    · have H0 := Lib.hid (show Two Bp Bw (F.getP x.toNat a n 0 : Nat) x w from by rw [F.get_start x.toNat a n 0 (by omega)]; exact h)
      clear h hn
      go_enter Try.func54, Try.ntmps54
      go_wp2_with fail
      go_loopw [6] (fun i wr => ∃ k : Int, 0 ≤ k ∧ a ≤ k ∧ (k ≤ 32 ∨ k ≤ a) ∧ i = .int .i64 k ∧ Two Bp Bw (F.getP x.toNat a n k : Nat) x wr ∧ KeptB B w wr) (fun i _ => (32 - intOf i).toNat)
      case atStart => exact ⟨_, by omega, by omega, by omega, rfl, H0.out, KeptB.refl _ _⟩
      case round =>
        obtain ⟨k, hk0, hka, hk1, rfl, hT, hK⟩ := hrel
        clear H0
        by_cases hlt : k < 32
        · by_cases hin : k - a < n
          · have Hs := Lib.hid (F.get_stepI x a n k hx0 hx1 hk0 hlt hka hin)
            (try have hpl := F.place_neg k a hneg ha0 hk0 hlt)
            go_wp2_with fail
            refine (get1_any k (k - a) _ x B Bp Bw hk0 hlt (by omega) hB _ hT).mono ?_
            rintro e w2 ⟨rfl, hT2, hK2⟩
            rw [Hs.out] at hT2
            (try clear hpl)
            go_wp2_with fail
            go_roundw
            case rel => exact ⟨k + 1, by omega, by omega, by omega, rfl, hT2, hK.trans hK2⟩
            case measure => simp [intOf]; omega
          · have He := Lib.hid (show F.get x a n = (F.getP x.toNat a n k : Nat) from by rw [F.get, F.get_end x.toNat a n k 32 (by omega) (by omega)])
            (try have hpl := F.place_neg k a hneg ha0 hk0 hlt)
            go_wp2_with fail
            (try simp only [Exit.inBlock, Exit.then]); refine bodyPost_ret (results_none rfl _ _ _) rfl ?_
            exact ⟨rfl, by rw [He.out]; exact hT, hK⟩
        · have He := Lib.hid (show F.get x a n = (F.getP x.toNat a n k : Nat) from by rw [F.get]; rcases (show k = 32 ∨ k ≤ a by omega) with e | e; (rw [e]); (rw [F.get_end x.toNat a n 32 k (by omega) (by omega)]))
          go_wp2_with fail
          go_end0
          exact ⟨rfl, by rw [He.out]; exact hT, hK⟩
    · have H0 := Lib.hid (show Two Bp Bw (F.getP x.toNat a n a : Nat) x w from by rw [F.get_start x.toNat a n a (by omega)]; exact h)
      clear h hn
      go_enter Try.func54, Try.ntmps54
      go_wp2_with fail
      go_loopw [6] (fun i wr => ∃ k : Int, 0 ≤ k ∧ a ≤ k ∧ (k ≤ 32 ∨ k ≤ a) ∧ i = .int .i64 k ∧ Two Bp Bw (F.getP x.toNat a n k : Nat) x wr ∧ KeptB B w wr) (fun i _ => (32 - intOf i).toNat)
      case atStart => exact ⟨_, by omega, by omega, by omega, rfl, H0.out, KeptB.refl _ _⟩
      case round =>
        obtain ⟨k, hk0, hka, hk1, rfl, hT, hK⟩ := hrel
        clear H0
        by_cases hlt : k < 32
        · by_cases hin : k - a < n
          · have Hs := Lib.hid (F.get_stepI x a n k hx0 hx1 hk0 hlt hka hin)
            (try have hpl := F.place_neg k a hneg ha0 hk0 hlt)
            go_wp2_with fail
            refine (get1_any k (k - a) _ x B Bp Bw hk0 hlt (by omega) hB _ hT).mono ?_
            rintro e w2 ⟨rfl, hT2, hK2⟩
            rw [Hs.out] at hT2
            (try clear hpl)
            go_wp2_with fail
            go_roundw
            case rel => exact ⟨k + 1, by omega, by omega, by omega, rfl, hT2, hK.trans hK2⟩
            case measure => simp [intOf]; omega
          · have He := Lib.hid (show F.get x a n = (F.getP x.toNat a n k : Nat) from by rw [F.get, F.get_end x.toNat a n k 32 (by omega) (by omega)])
            (try have hpl := F.place_neg k a hneg ha0 hk0 hlt)
            go_wp2_with fail
            (try simp only [Exit.inBlock, Exit.then]); refine bodyPost_ret (results_none rfl _ _ _) rfl ?_
            exact ⟨rfl, by rw [He.out]; exact hT, hK⟩
        · have He := Lib.hid (show F.get x a n = (F.getP x.toNat a n k : Nat) from by rw [F.get]; rcases (show k = 32 ∨ k ≤ a by omega) with e | e; (rw [e]); (rw [F.get_end x.toNat a n 32 k (by omega) (by omega)]))
          go_wp2_with fail
          go_end0
          exact ⟨rfl, by rw [He.out]; exact hT, hK⟩
set_option maxHeartbeats 1000000 in
theorem eachSet_any (a n y x : Int) (B Bp Bw : Nat) (ha0 : -9223372036854775808 ≤ a) (ha1 : a ≤ 9223372036854775807) (hn1 : n ≤ 9223372036854775807) (hy0 : 0 ≤ y) (hy1 : y < 4294967296) (hx0 : 0 ≤ x) (hx1 : x < 4294967296) (hB : B ≤ Bp) (w : World) (h : Two Bp Bw y x w) :
    Calls Try.prog 54 #[.int .i64 a, .int .i64 n, .func (.func 55) #[] #[.pointer (some ⟨Bp, 0, none⟩), .pointer (some ⟨Bw, 0, none⟩)]] w fun e w' =>
      e = .returned (.tuple #[]) ∧ Two Bp Bw (F.set y a n x) x w' ∧ KeptB B w w' := by
  have hmf : ∀ (fn : Fn) (first cap : Array Value) (w : World), (Instr.makeFunc fn first cap).run Try.prog w = .ok (.func fn first cap) w := fun _ _ _ _ => rfl
  by_cases hn : n < 1
  · have H0 := Lib.hid (show Two Bp Bw (F.set y a n x) x w from by rw [F.set, F.set_end y.toNat x.toNat a n 0 32 (by omega) (by omega), F.set_start y.toNat x.toNat a n 0 (by omega) (by omega), Int.toNat_of_nonneg hy0]; exact h)
    go_enter Try.func54, Try.ntmps54
    go_wp2
    (try simp only [Exit.inBlock, Exit.then]); refine bodyPost_ret (results_none rfl _ _ _) rfl ?_
    exact ⟨rfl, H0.out, KeptB.refl _ _⟩
  · have hn' : 1 ≤ n := by omega
    rcases (show a < 0 ∨ 0 ≤ a by omega) with hneg | hneg
    · have H0 := Lib.hid (show Two Bp Bw (F.setP y.toNat x.toNat a n 0 : Nat) x w from by rw [F.set_start y.toNat x.toNat a n 0 (by omega) (by omega), Int.toNat_of_nonneg hy0]; exact h)
      clear h hn
      go_enter Try.func54, Try.ntmps54
      go_wp2_with fail
      go_loopw [6] (fun i wr => ∃ k : Int, 0 ≤ k ∧ a ≤ k ∧ (k ≤ 32 ∨ k ≤ a) ∧ i = .int .i64 k ∧ Two Bp Bw (F.setP y.toNat x.toNat a n k : Nat) x wr ∧ KeptB B w wr) (fun i _ => (32 - intOf i).toNat)
      case atStart => exact ⟨_, by omega, by omega, by omega, rfl, H0.out, KeptB.refl _ _⟩
      case round =>
        obtain ⟨k, hk0, hka, hk1, rfl, hT, hK⟩ := hrel
        clear H0
        by_cases hlt : k < 32
        · by_cases hin : k - a < n
          · have Hs := Lib.hid (F.set_stepI y x a n k hx0 hx1 hk0 hlt hka hin)
            (try have hpl := F.place_neg k a hneg ha0 hk0 hlt)
            go_wp2_with fail
            refine (set1_any k (k - a) _ x B Bp Bw hk0 hlt (by omega) hB _ hT).mono ?_
            rintro e w2 ⟨rfl, hT2, hK2⟩
            rw [Hs.out] at hT2
            (try clear hpl)
            go_wp2_with fail
            go_roundw
            case rel => exact ⟨k + 1, by omega, by omega, by omega, rfl, hT2, hK.trans hK2⟩
            case measure => simp [intOf]; omega
          · have He := Lib.hid (show F.set y a n x = (F.setP y.toNat x.toNat a n k : Nat) from by rw [F.set, F.set_end y.toNat x.toNat a n k 32 (by omega) (by omega)])
            (try have hpl := F.place_neg k a hneg ha0 hk0 hlt)
            go_wp2_with fail
            (try simp only [Exit.inBlock, Exit.then]); refine bodyPost_ret (results_none rfl _ _ _) rfl ?_
            exact ⟨rfl, by rw [He.out]; exact hT, hK⟩
        · have He := Lib.hid (show F.set y a n x = (F.setP y.toNat x.toNat a n k : Nat) from by rw [F.set]; rcases (show k = 32 ∨ k ≤ a by omega) with e | e; (rw [e]); (rw [F.set_end y.toNat x.toNat a n 32 k (by omega) (by omega)]))
          go_wp2_with fail
          go_end0
          exact ⟨rfl, by rw [He.out]; exact hT, hK⟩
    · have H0 := Lib.hid (show Two Bp Bw (F.setP y.toNat x.toNat a n a : Nat) x w from by rw [F.set_start y.toNat x.toNat a n a (by omega) (by omega), Int.toNat_of_nonneg hy0]; exact h)
      clear h hn
      go_enter Try.func54, Try.ntmps54
      go_wp2_with fail
      go_loopw [6] (fun i wr => ∃ k : Int, 0 ≤ k ∧ a ≤ k ∧ (k ≤ 32 ∨ k ≤ a) ∧ i = .int .i64 k ∧ Two Bp Bw (F.setP y.toNat x.toNat a n k : Nat) x wr ∧ KeptB B w wr) (fun i _ => (32 - intOf i).toNat)
      case atStart => exact ⟨_, by omega, by omega, by omega, rfl, H0.out, KeptB.refl _ _⟩
      case round =>
        obtain ⟨k, hk0, hka, hk1, rfl, hT, hK⟩ := hrel
        clear H0
        by_cases hlt : k < 32
        · by_cases hin : k - a < n
          · have Hs := Lib.hid (F.set_stepI y x a n k hx0 hx1 hk0 hlt hka hin)
            (try have hpl := F.place_neg k a hneg ha0 hk0 hlt)
            go_wp2_with fail
            refine (set1_any k (k - a) _ x B Bp Bw hk0 hlt (by omega) hB _ hT).mono ?_
            rintro e w2 ⟨rfl, hT2, hK2⟩
            rw [Hs.out] at hT2
            (try clear hpl)
            go_wp2_with fail
            go_roundw
            case rel => exact ⟨k + 1, by omega, by omega, by omega, rfl, hT2, hK.trans hK2⟩
            case measure => simp [intOf]; omega
          · have He := Lib.hid (show F.set y a n x = (F.setP y.toNat x.toNat a n k : Nat) from by rw [F.set, F.set_end y.toNat x.toNat a n k 32 (by omega) (by omega)])
            (try have hpl := F.place_neg k a hneg ha0 hk0 hlt)
            go_wp2_with fail
            (try simp only [Exit.inBlock, Exit.then]); refine bodyPost_ret (results_none rfl _ _ _) rfl ?_
            exact ⟨rfl, by rw [He.out]; exact hT, hK⟩
        · have He := Lib.hid (show F.set y a n x = (F.setP y.toNat x.toNat a n k : Nat) from by rw [F.set]; rcases (show k = 32 ∨ k ≤ a by omega) with e | e; (rw [e]); (rw [F.set_end y.toNat x.toNat a n 32 k (by omega) (by omega)]))
          go_wp2_with fail
          go_end0
          exact ⟨rfl, by rw [He.out]; exact hT, hK⟩
end Go.Proofs.Ytlmddkciamdldaa

/-
  The contracts of package field, and of the document's own answers for it.
-/
namespace Go.Proofs.Ytlmddkciamdldaa
open Go.RowKit
set_option linter.unusedVariables false
set_option linter.unusedSimpArgs false
set_option maxRecDepth 100000
set_option maxHeartbeats 400000 in
theorem get_any (x a n : Int) (hx0 : 0 ≤ x) (hx1 : x < 4294967296) (ha0 : -9223372036854775808 ≤ a) (ha1 : a ≤ 9223372036854775807) (hn1 : n ≤ 9223372036854775807) (w : World) :
    Calls Try.prog 57 #[.int .u32 x, .int .i64 a, .int .i64 n] w fun e w' => e = .returned (.int .u32 (F.get x a n)) ∧ Kept w w' := by
  have hmf : ∀ (fn : Fn) (first cap : Array Value) (w : World), (Instr.makeFunc fn first cap).run Try.prog w = .ok (.func fn first cap) w := fun _ _ _ _ => rfl
  have T0 := Lib.hid (show Two (w.heap.size + 1) w.heap.size 0 x ((w.alloc (.cells #[.int .u32 x] 24)).alloc (.cells #[.int .u32 0] 24)) from
    ⟨by have := heap_alloc_last (w.alloc (.cells #[.int .u32 x] 24)) (.cells #[.int .u32 0] 24); simpa using this, heap_alloc_keep (heap_alloc_last w _) _, by omega⟩)
  have K0 := Lib.hid ((((Kept.refl w).alloc #[.int .u32 x] 24).alloc #[.int .u32 0] 24))
  go_enter Try.func57, Try.ntmps57
  go_wp2_with fail
  refine (eachGet_any a n x w.heap.size _ _ ha0 ha1 hn1 hx0 hx1 (by omega) _ T0.out).mono ?_
  rintro e w2 ⟨rfl, hT, hK⟩
  have K2 := Lib.hid (K0.out.transB hK (Nat.le_refl _))
  have c1 := cell_of_one hT.hp
  clear hT hK K0 T0
  go_wp2_with fail
  go_ret
  exact ⟨rfl, K2.out⟩
set_option maxHeartbeats 400000 in
theorem set_any (y a n x : Int) (hy0 : 0 ≤ y) (hy1 : y < 4294967296) (hx0 : 0 ≤ x) (hx1 : x < 4294967296) (ha0 : -9223372036854775808 ≤ a) (ha1 : a ≤ 9223372036854775807) (hn1 : n ≤ 9223372036854775807) (w : World) :
    Calls Try.prog 46 #[.int .u32 y, .int .i64 a, .int .i64 n, .int .u32 x] w fun e w' => e = .returned (.int .u32 (F.set y a n x)) ∧ Kept w w' := by
  have hmf : ∀ (fn : Fn) (first cap : Array Value) (w : World), (Instr.makeFunc fn first cap).run Try.prog w = .ok (.func fn first cap) w := fun _ _ _ _ => rfl
  have T0 := Lib.hid (show Two w.heap.size (w.heap.size + 1) y x ((w.alloc (.cells #[.int .u32 y] 24)).alloc (.cells #[.int .u32 x] 24)) from
    ⟨heap_alloc_keep (heap_alloc_last w _) _, by have := heap_alloc_last (w.alloc (.cells #[.int .u32 y] 24)) (.cells #[.int .u32 x] 24); simpa using this, by omega⟩)
  have K0 := Lib.hid ((((Kept.refl w).alloc #[.int .u32 y] 24).alloc #[.int .u32 x] 24))
  go_enter Try.func46, Try.ntmps46
  go_wp2_with fail
  refine (eachSet_any a n y x w.heap.size _ _ ha0 ha1 hn1 hy0 hy1 hx0 hx1 (by omega) _ T0.out).mono ?_
  rintro e w2 ⟨rfl, hT, hK⟩
  have K2 := Lib.hid (K0.out.transB hK (Nat.le_refl _))
  have c1 := cell_of_one hT.hp
  clear hT hK K0 T0
  go_wp2_with fail
  go_ret
  exact ⟨rfl, K2.out⟩
set_option maxHeartbeats 400000 in
theorem bounded_any (n : Int) (w : World) :
    Calls Try.prog 53 #[.int .i64 n] w fun e w' => e = .returned (.int .i64 (F.clamp n)) ∧ w = w' := by
  rcases (show n < 1 ∨ 32 < n ∨ (1 ≤ n ∧ n ≤ 32) by omega) with h | h | ⟨h, h'⟩
  · have E := Lib.hid (F.clamp_1 n h)
    go_enter Try.func53, Try.ntmps53
    go_wp2
    go_ret
    exact r1 E.out.symm
  · have E := Lib.hid (F.clamp_32 n h)
    go_enter Try.func53, Try.ntmps53
    go_wp2
    go_ret
    exact r1 E.out.symm
  · have E := Lib.hid (F.clamp_in n h h')
    go_enter Try.func53, Try.ntmps53
    go_wp2
    go_ret
    exact r1 E.out.symm
set_option maxHeartbeats 400000 in
theorem fsigned_any (x n : Int) (hx0 : 0 ≤ x) (hx1 : x < 4294967296) (w : World) :
    Calls Try.prog 62 #[.int .u32 x, .int .i64 n] w fun e w' => e = .returned (.int .i64 (F.sgnd x (F.clamp n))) ∧ w = w' := by
  have k0 := F.clamp_lo n
  have k1 := F.clamp_hi n
  have C := Lib.hid (fun w => bounded_any n w)
  generalize F.clamp n = k at *
  go_enter Try.func62, Try.ntmps62
  go_wp2_with fail
  refine (C.out _).mono ?_; rintro e w' ⟨rfl, rfl⟩
  go_wp2_with fail
  go_ret
  exact r1 (F.sgnd_shift x k hx0 hx1 k0 k1)
theorem F.fit1 (P : Int) (h : 1 ≤ P) (h' : P ≤ 2147483648) : wrap64 (-wrap64 P) = -P := by unfold wrap64; omega
theorem F.fit2 (P : Int) (h : 1 ≤ P) (h' : P ≤ 2147483648) : wrap64 P = P := by unfold wrap64; omega
set_option maxHeartbeats 400000 in
theorem fits_any (v n : Int) (w : World) :
    Calls Try.prog 45 #[.int .i64 v, .int .i64 n] w fun e w' => e = .returned (.bool (F.fitsK v (F.clamp n))) ∧ w = w' := by
  have k0 := F.clamp_lo n
  have k1 := F.clamp_hi n
  have C := Lib.hid (fun w => bounded_any n w)
  generalize F.clamp n = k at *
  have E1 := Lib.hid (F.fit1 _ (F.half_lo k) (F.half_hi k k1))
  have E2 := Lib.hid (F.fit2 _ (F.half_lo k) (F.half_hi k k1))
  go_enter Try.func45, Try.ntmps45
  go_wp2_with fail
  refine (C.out _).mono ?_; rintro e w' ⟨rfl, rfl⟩
  go_wp2_with fail
  all_goals go_ret
  · rename_i h
    rw [E1.out] at h
    exact r1b (by rw [E2.out]; unfold F.fitsK; rw [decide_eq_true h]; rfl)
  · rename_i h
    rw [E1.out] at h
    exact r1b (by unfold F.fitsK; rw [decide_eq_false (by omega)]; rfl)
end Go.Proofs.Ytlmddkciamdldaa

/-
  The contracts of the small functions of package isa, and of the document's own answers for it.
-/
namespace Go.Proofs.Ytlmddkciamdldaa
open Go.RowKit
set_option linter.unusedVariables false
set_option linter.unusedSimpArgs false
set_option maxRecDepth 100000
theorem I.reg_no1 (n : Int) (h : n < 0) : I.reg n = false := by unfold I.reg; rw [decide_eq_false (by omega)]; rfl
theorem I.reg_at (n : Int) (h : 0 ≤ n) : I.reg n = decide (n ≤ 15) := by unfold I.reg; rw [decide_eq_true h]; rfl
theorem isReg_any (n : Int) (w : World) :
    Calls Try.prog 33 #[.int .i64 n] w fun e w' => e = .returned (.bool (I.reg n)) ∧ w = w' := by
  go_enter Try.func33, Try.ntmps33
  go_wp2
  all_goals go_ret
  · rename_i h; exact r1b (I.reg_at n h).symm
  · rename_i h; exact r1b (I.reg_no1 n h).symm
theorem bit_any (u : Bool) (w : World) :
    Calls Try.prog 36 #[.bool u] w fun e w' => e = .returned (.int .i64 (I.bit u)) ∧ w = w' := by
  cases u
  all_goals
    go_enter Try.func36, Try.ntmps36
    go_wp2
    go_ret
    exact r1 rfl
theorem I.nb_1 (op b : Int) (h : (op == 0) = false) : I.nb op b = b := by unfold I.nb; rw [if_neg (by simpa using h)]
theorem namedB_any (k op a b c i : Int) (u : Bool) (w : World) :
    Calls Try.prog 43 #[.agg #[.int .i64 k, .int .i64 op, .int .i64 a, .int .i64 b, .int .i64 c, .int .i64 i, .bool u]] w fun e w' => e = .returned (.int .i64 (I.nb op b)) ∧ Kept w w' := by
  by_cases h0 : op = 0
  · subst h0
    go_enter Try.func43, Try.ntmps43
    go_wp2
    go_ret
    exact r1k rfl ((Kept.refl w).alloc _ _)
  · have hz : (op == 0) = false := by simpa using h0
    have E := Lib.hid (I.nb_1 op b hz)
    go_enter Try.func43, Try.ntmps43
    go_wp2
    go_ret
    exact r1k E.out.symm ((Kept.refl w).alloc _ _)
theorem I.carry_1 (op : Int) (h : ¬ op = 8) (h' : ¬ op = 9) : (op == 8 || op == 9 || op == 10) = I.carry op := by
  rw [Bool.eq_iff_iff]; simp [I.carry]; omega
theorem hasCarry_any (op : Int) (w : World) :
    Calls Try.prog 44 #[.int .i64 op] w fun e w' => e = .returned (.bool (I.carry op)) ∧ w = w' := by
  go_enter Try.func44, Try.ntmps44
  go_wp2
  all_goals go_ret
  · rename_i h; subst h; exact r1b rfl
  · rename_i h' h; subst h; exact r1b rfl
  · rename_i h h'; exact r1b (I.carry_1 op h h')
theorem I.kinds (k : Int) : k = 1 ∨ k = 2 ∨ k = 3 ∨ k = 4 ∨ k = 5 ∨ k = 6 ∨ k = 7 ∨ ((k == 1) = false ∧ (k == 2) = false ∧ (k == 3) = false ∧ (k == 4) = false ∧ (k == 5) = false ∧ (k == 6) = false ∧ (k == 7) = false) := by
  simp only [beq_eq_false_iff_ne]; omega
theorem isOp_any (k op a b c i : Int) (u : Bool) (w : World) :
    Calls Try.prog 32 #[.agg #[.int .i64 k, .int .i64 op, .int .i64 a, .int .i64 b, .int .i64 c, .int .i64 i, .bool u]] w fun e w' => e = .returned (.bool (I.isOp k op)) ∧ Kept w w' := by
  rcases I.kinds k with rfl | rfl | rfl | rfl | rfl | rfl | rfl | ⟨h1, h2, h3, h4, h5, h6, h7⟩
  all_goals
    go_enter Try.func32, Try.ntmps32
    go_wp2
  all_goals go_ret
  all_goals refine r1bk ?_ ((Kept.refl w).alloc _ _)
  all_goals (try simp only [beq_eq_false_iff_ne] at *)
  all_goals (unfold I.isOp; simp [*])
  all_goals omega
theorem isNum_any (k op a b c i : Int) (u : Bool) (w : World) :
    Calls Try.prog 34 #[.agg #[.int .i64 k, .int .i64 op, .int .i64 a, .int .i64 b, .int .i64 c, .int .i64 i, .bool u]] w fun e w' => e = .returned (.bool (I.isNum k op i u)) ∧ Kept w w' := by
  have F17 := Lib.hid (fun w => show Calls Try.prog 45 #[.int .i64 i, .int .i64 17] w fun e w' => e = .returned (.bool (F.fitsK i 17)) ∧ w = w' from fits_any i 17 w)
  have F20 := Lib.hid (fun w => show Calls Try.prog 45 #[.int .i64 i, .int .i64 20] w fun e w' => e = .returned (.bool (F.fitsK i 20)) ∧ w = w' from fits_any i 20 w)
  have F24 := Lib.hid (fun w => show Calls Try.prog 45 #[.int .i64 i, .int .i64 24] w fun e w' => e = .returned (.bool (F.fitsK i 24)) ∧ w = w' from fits_any i 24 w)
  rcases I.kinds k with rfl | rfl | rfl | rfl | rfl | rfl | rfl | ⟨h1, h2, h3, h4, h5, h6, h7⟩
  · go_enter Try.func34, Try.ntmps34
    go_wp2
    go_ret
    exact r1bk rfl ((Kept.refl w).alloc _ _)
  · have E : I.isNum 2 op i u = (F.fitsK i 17 && !(op == 0 && u && decide (i < 0))) := rfl
    have HE := Lib.hid E
    clear E
    generalize F.fitsK i 17 = f at *
    generalize I.isNum 2 op i u = r at *
    cases f <;> cases u
    all_goals
      go_enter Try.func34, Try.ntmps34
      go_wp2_with fail
    all_goals (refine (F17.out _).mono ?_; rintro e w' ⟨rfl, rfl⟩)
    all_goals go_wp2_with fail
    all_goals go_ret
    all_goals refine r1bk ?_ ((Kept.refl w).alloc _ _)
    all_goals (rw [HE.out]; simp [*])
  · go_enter Try.func34, Try.ntmps34
    go_wp2
    go_ret
    exact r1bk rfl ((Kept.refl w).alloc _ _)
  · go_enter Try.func34, Try.ntmps34
    go_wp2
    go_ret
    exact r1bk rfl ((Kept.refl w).alloc _ _)
  · go_enter Try.func34, Try.ntmps34
    go_wp2_with fail
    refine (F20.out _).mono ?_; rintro e w' ⟨rfl, rfl⟩
    go_wp2_with fail
    go_ret
    exact r1bk rfl ((Kept.refl w).alloc _ _)
  · go_enter Try.func34, Try.ntmps34
    go_wp2
    go_ret
    exact r1bk rfl ((Kept.refl w).alloc _ _)
  · go_enter Try.func34, Try.ntmps34
    go_wp2_with fail
    refine (F24.out _).mono ?_; rintro e w' ⟨rfl, rfl⟩
    go_wp2_with fail
    go_ret
    exact r1bk rfl ((Kept.refl w).alloc _ _)
  · have E : I.isNum k op i u = (i == 0) := by unfold I.isNum; rw [if_neg (by simpa using h2), if_neg (by simpa using h5), if_neg (by simpa using h7)]
    have HE := Lib.hid E
    clear E
    go_enter Try.func34, Try.ntmps34
    go_wp2
    go_ret
    exact r1bk HE.out.symm ((Kept.refl w).alloc _ _)
end Go.Proofs.Ytlmddkciamdldaa

/-
  An instruction in memory; the contracts of named and May.
-/
namespace Go.Proofs.Ytlmddkciamdldaa
open Go.RowKit
set_option linter.unusedVariables false
set_option linter.unusedSimpArgs false
set_option maxRecDepth 100000
/-- an instruction lies in the block B -/
def Box (B : Nat) (k op a b c i : Int) (u : Bool) (w : World) : Prop := w.heap[B]? = some (.cells #[.int .i64 k, .int .i64 op, .int .i64 a, .int .i64 b, .int .i64 c, .int .i64 i, .bool u] 23 (0, 0))
theorem Box.cells {B : Nat} {k op a b c i : Int} {u : Bool} {w : World} (h : Box B k op a b c i u w) : w.cell? ⟨B, 0, none⟩ = some (.int .i64 k) ∧ w.cell? ⟨B, 1, none⟩ = some (.int .i64 op) ∧ w.cell? ⟨B, 2, none⟩ = some (.int .i64 a) ∧ w.cell? ⟨B, 3, none⟩ = some (.int .i64 b) ∧ w.cell? ⟨B, 4, none⟩ = some (.int .i64 c) ∧ w.cell? ⟨B, 5, none⟩ = some (.int .i64 i) ∧ w.cell? ⟨B, 6, none⟩ = some (.bool u) := by
  unfold Box at h
  refine ⟨?_, ?_, ?_, ?_, ?_, ?_, ?_⟩ <;> simp [World.cell?, h]
theorem Box.free {B : Nat} {k op a b c i : Int} {u : Bool} {w : World} (h : Box B k op a b c i u w) : w.frozen? ⟨B, 0, none⟩ = false ∧ w.frozen? ⟨B, 1, none⟩ = false ∧ w.frozen? ⟨B, 2, none⟩ = false ∧ w.frozen? ⟨B, 3, none⟩ = false ∧ w.frozen? ⟨B, 4, none⟩ = false ∧ w.frozen? ⟨B, 5, none⟩ = false ∧ w.frozen? ⟨B, 6, none⟩ = false := by
  unfold Box at h
  refine ⟨?_, ?_, ?_, ?_, ?_, ?_, ?_⟩ <;> simp [World.frozen?, h]
theorem Box.kept {B : Nat} {k op a b c i : Int} {u : Bool} {w w' : World} (h : Box B k op a b c i u w) (hK : Kept w w') : Box B k op a b c i u w' := hK.block h
theorem Box.new (k op a b c i : Int) (u : Bool) (w : World) : Box w.heap.size k op a b c i u (w.alloc (.cells #[.int .i64 k, .int .i64 op, .int .i64 a, .int .i64 b, .int .i64 c, .int .i64 i, .bool u] 23)) := heap_alloc_last _ _
theorem Box.alloc {B : Nat} {k op a b c i : Int} {u : Bool} {w : World} (h : Box B k op a b c i u w) (o : Obj) : Box B k op a b c i u (w.alloc o) := heap_alloc_keep h _
theorem Box.drew {B : Nat} {k op a b c i : Int} {u : Bool} {w : World} (h : Box B k op a b c i u w) : Box B k op a b c i u w.drew := h
theorem Box.set {B B' : Nat} {k op a b c i : Int} {u : Bool} {w : World} (h : Box B k op a b c i u w) (hB : B ≠ B') (j : Nat) (v : Value) : Box B k op a b c i u (w.setCell ⟨B', j, none⟩ v) := heap_setCell_keep h hB _
/-- seven cells stored -/
def store7 (w : World) (B' : Nat) (k op a b c i : Int) (u : Bool) : World := ((((((w.setCell ⟨B', 0, none⟩ (.int .i64 k)).setCell ⟨B', 1, none⟩ (.int .i64 op)).setCell ⟨B', 2, none⟩ (.int .i64 a)).setCell ⟨B', 3, none⟩ (.int .i64 b)).setCell ⟨B', 4, none⟩ (.int .i64 c)).setCell ⟨B', 5, none⟩ (.int .i64 i)).setCell ⟨B', 6, none⟩ (.bool u)
theorem Box.other {B B' : Nat} {k op a b c i k' op' a' b' c' i' : Int} {u u' : Bool} {w : World} (h : Box B k op a b c i u w) (hB : B ≠ B') : Box B k op a b c i u (store7 w B' k' op' a' b' c' i' u') :=
  ((((((h.set hB _ _).set hB _ _).set hB _ _).set hB _ _).set hB _ _).set hB _ _).set hB _ _
theorem Kept.store7 {w0 w : World} (h : Kept w0 w) {B' : Nat} (hB : w0.heap.size ≤ B') (k op a b c i : Int) (u : Bool) : Kept w0 (store7 w B' k op a b c i u) :=
  ((((((h.setCell hB _).setCell hB _).setCell hB _).setCell hB _).setCell hB _).setCell hB _).setCell hB _
theorem Box.stored {B : Nat} {k op a b c i k' op' a' b' c' i' : Int} {u u' : Bool} {w : World} (h : Box B k op a b c i u w) : Box B k' op' a' b' c' i' u' (store7 w B k' op' a' b' c' i' u') := by
  unfold Box at *
  unfold store7
  simp [World.setCell, Array.getElem?_modify, h]
theorem size_alloc1 (w : World) (o : Obj) : (w.alloc o).heap.size = w.heap.size + 1 := by simp
set_option maxHeartbeats 2000000 in
theorem named_1f (op a b c i : Int) (w : World) :
    Calls Try.prog 31 #[.agg #[.int .i64 1, .int .i64 op, .int .i64 a, .int .i64 b, .int .i64 c, .int .i64 i, .bool false]] w fun e w' => e = .returned (.agg #[.int .i64 1, .int .i64 op, .int .i64 a, .int .i64 (I.nb op b), .int .i64 c, .int .i64 0, .bool false]) ∧ Kept w w' := by
  have hK0 := Kept.refl ((w.alloc (.cells #[.int .i64 1, .int .i64 op, .int .i64 a, .int .i64 b, .int .i64 c, .int .i64 i, .bool false] 23)).alloc (.cells #[.int .i64 0, .int .i64 0, .int .i64 0, .int .i64 0, .int .i64 0, .int .i64 0, .bool false] 23))
  have X1 := (Box.new 1 op a b c i false w).alloc (.cells #[.int .i64 0, .int .i64 0, .int .i64 0, .int .i64 0, .int .i64 0, .int .i64 0, .bool false] 23)
  have X2 := size_alloc1 w (.cells #[.int .i64 1, .int .i64 op, .int .i64 a, .int .i64 b, .int .i64 c, .int .i64 i, .bool false] 23) ▸ Box.new 0 0 0 0 0 0 false (w.alloc (.cells #[.int .i64 1, .int .i64 op, .int .i64 a, .int .i64 b, .int .i64 c, .int .i64 i, .bool false] 23))
  have hB := show Kept w ((w.alloc (.cells #[.int .i64 1, .int .i64 op, .int .i64 a, .int .i64 b, .int .i64 c, .int .i64 i, .bool false] 23)).alloc (.cells #[.int .i64 0, .int .i64 0, .int .i64 0, .int .i64 0, .int .i64 0, .int .i64 0, .bool false] 23)) from ((Kept.refl w).alloc _ _).alloc _ _
  go_enter Try.func31, Try.ntmps31
  go_wp2_with fail
  generalize ((w.alloc (.cells #[.int .i64 1, .int .i64 op, .int .i64 a, .int .i64 b, .int .i64 c, .int .i64 i, .bool false] 23)).alloc (.cells #[.int .i64 0, .int .i64 0, .int .i64 0, .int .i64 0, .int .i64 0, .int .i64 0, .bool false] 23)) = wB at hK0 hB X1 X2
  have HB := Lib.hid hB
  have HX1 := Lib.hid X1
  have HX2 := Lib.hid X2
  clear hB X1 X2
  refine wp_region_held_drew (S := fun w' => w'.cell? ⟨w.heap.size, 0, none⟩ = some (.int .i64 1) ∧ w'.cell? ⟨w.heap.size, 1, none⟩ = some (.int .i64 op) ∧ w'.cell? ⟨w.heap.size, 2, none⟩ = some (.int .i64 a) ∧ w'.cell? ⟨w.heap.size, 3, none⟩ = some (.int .i64 b) ∧ w'.cell? ⟨w.heap.size, 4, none⟩ = some (.int .i64 c) ∧ w'.cell? ⟨w.heap.size, 5, none⟩ = some (.int .i64 i) ∧ w'.cell? ⟨w.heap.size, 6, none⟩ = some (.bool false)) (by kernel_rfl) ?_ (fun hHeld => ?_)
  · exact (HX1.out.kept hK0.drew).cells
  refine wpAnyH_take (i := 0) (oi := { dst := some 7, op := Op.fieldAddr 23 (Operand.tmp 1) 0, type := 0, pos := "isa.go:38", after := #[], guard := none }) (v := ?_) rfl (by kernel_rfl) (by kernel_rfl) (by kernel_rfl) (fun _ _ _ h => h) (Or.inl ⟨rfl, ?_⟩) hHeld ?_
  rotate_left
  · (intro w hSw; (try dsimp only at hSw); go_simp; try with_reducible rfl)
  try simp only [Act.put, List.setIfInBounds_toArray, List.set_cons_zero, List.set_cons_succ]
  refine wpAnyH_take (i := 1) (oi := { dst := some 8, op := Op.load 3 (Operand.tmp 7), type := 3, pos := "isa.go:38", after := #[eD 0], guard := none }) (v := ?_) rfl (by kernel_rfl) (by kernel_rfl) (by kernel_rfl) (fun _ _ _ h => h) (Or.inl ⟨rfl, ?_⟩) hHeld ?_
  rotate_left
  · (intro w hSw; (try dsimp only at hSw); go_simp; try with_reducible rfl)
  try simp only [Act.put, List.setIfInBounds_toArray, List.set_cons_zero, List.set_cons_succ]
  refine wpAnyH_take (i := 2) (oi := { dst := some 9, op := Op.fieldAddr 23 (Operand.tmp 1) 1, type := 0, pos := "isa.go:38", after := #[], guard := none }) (v := ?_) rfl (by kernel_rfl) (by kernel_rfl) (by kernel_rfl) (fun _ _ _ h => h) (Or.inl ⟨rfl, ?_⟩) hHeld ?_
  rotate_left
  · (intro w hSw; (try dsimp only at hSw); go_simp; try with_reducible rfl)
  try simp only [Act.put, List.setIfInBounds_toArray, List.set_cons_zero, List.set_cons_succ]
  refine wpAnyH_take (i := 3) (oi := { dst := some 10, op := Op.load 3 (Operand.tmp 9), type := 3, pos := "isa.go:38", after := #[eD 2], guard := none }) (v := ?_) rfl (by kernel_rfl) (by kernel_rfl) (by kernel_rfl) (fun _ _ _ h => h) (Or.inl ⟨rfl, ?_⟩) hHeld ?_
  rotate_left
  · (intro w hSw; (try dsimp only at hSw); go_simp; try with_reducible rfl)
  try simp only [Act.put, List.setIfInBounds_toArray, List.set_cons_zero, List.set_cons_succ]
  refine wpAnyH_take (i := 4) (oi := { dst := some 11, op := Op.fieldAddr 23 (Operand.tmp 1) 2, type := 0, pos := "isa.go:38", after := #[], guard := none }) (v := ?_) rfl (by kernel_rfl) (by kernel_rfl) (by kernel_rfl) (fun _ _ _ h => h) (Or.inl ⟨rfl, ?_⟩) hHeld ?_
  rotate_left
  · (intro w hSw; (try dsimp only at hSw); go_simp; try with_reducible rfl)
  try simp only [Act.put, List.setIfInBounds_toArray, List.set_cons_zero, List.set_cons_succ]
  refine wpAnyH_take (i := 5) (oi := { dst := some 12, op := Op.load 3 (Operand.tmp 11), type := 3, pos := "isa.go:38", after := #[eD 4], guard := none }) (v := ?_) rfl (by kernel_rfl) (by kernel_rfl) (by kernel_rfl) (fun _ _ _ h => h) (Or.inl ⟨rfl, ?_⟩) hHeld ?_
  rotate_left
  · (intro w hSw; (try dsimp only at hSw); go_simp; try with_reducible rfl)
  try simp only [Act.put, List.setIfInBounds_toArray, List.set_cons_zero, List.set_cons_succ]
  refine wpAnyH_take (i := 6) (oi := { dst := some 13, op := Op.load 23 (Operand.tmp 1), type := 23, pos := "isa.go:38", after := #[], guard := none }) (v := ?_) rfl (by kernel_rfl) (by kernel_rfl) (by kernel_rfl) (fun _ _ _ h => h) (Or.inl ⟨rfl, ?_⟩) hHeld ?_
  rotate_left
  · (intro w hSw; (try dsimp only at hSw); go_simp; try with_reducible rfl)
  try simp only [Act.put, List.setIfInBounds_toArray, List.set_cons_zero, List.set_cons_succ]
  refine wpAnyH_take (i := 8) (oi := { dst := some 15, op := Op.fieldAddr 23 (Operand.tmp 1) 4, type := 0, pos := "isa.go:38", after := #[], guard := none }) (v := ?_) rfl (by kernel_rfl) (by kernel_rfl) (by kernel_rfl) (fun _ _ _ h => h) (Or.inl ⟨rfl, ?_⟩) hHeld ?_
  rotate_left
  · (intro w hSw; (try dsimp only at hSw); go_simp; try with_reducible rfl)
  try simp only [Act.put, List.setIfInBounds_toArray, List.set_cons_zero, List.set_cons_succ]
  refine wpAnyH_take (i := 9) (oi := { dst := some 16, op := Op.load 3 (Operand.tmp 15), type := 3, pos := "isa.go:38", after := #[eD 8], guard := none }) (v := ?_) rfl (by kernel_rfl) (by kernel_rfl) (by kernel_rfl) (fun _ _ _ h => h) (Or.inl ⟨rfl, ?_⟩) hHeld ?_
  rotate_left
  · (intro w hSw; (try dsimp only at hSw); go_simp; try with_reducible rfl)
  try simp only [Act.put, List.setIfInBounds_toArray, List.set_cons_zero, List.set_cons_succ]
  refine wpAnyH_take (i := 10) (oi := { dst := some 17, op := Op.fieldAddr 23 (Operand.tmp 1) 6, type := 0, pos := "isa.go:38", after := #[], guard := none }) (v := ?_) rfl (by kernel_rfl) (by kernel_rfl) (by kernel_rfl) (fun _ _ _ h => h) (Or.inl ⟨rfl, ?_⟩) hHeld ?_
  rotate_left
  · (intro w hSw; (try dsimp only at hSw); go_simp; try with_reducible rfl)
  try simp only [Act.put, List.setIfInBounds_toArray, List.set_cons_zero, List.set_cons_succ]
  refine wpAnyH_take (i := 11) (oi := { dst := some 18, op := Op.load 4 (Operand.tmp 17), type := 4, pos := "isa.go:38", after := #[eD 10], guard := none }) (v := ?_) rfl (by kernel_rfl) (by kernel_rfl) (by kernel_rfl) (fun _ _ _ h => h) (Or.inl ⟨rfl, ?_⟩) hHeld ?_
  rotate_left
  · (intro w hSw; (try dsimp only at hSw); go_simp; try with_reducible rfl)
  try simp only [Act.put, List.setIfInBounds_toArray, List.set_cons_zero, List.set_cons_succ]
  refine wpAnyH_ready (rs := [7]) (by kernel_rfl) (by simp) ?_
  refine AllReadyH.cons (o := { dst := some 14, op := Op.call { callee := Callee.value (Operand.func 43), args := #[Operand.tmp 13], argTypes := #[23] }, type := 3, pos := "isa.go:38", after := #[eD 6], guard := none }) rfl (fun K hK => ?_) AllReadyH.nil
  go_simp
  go_at_call 43
  refine (namedB_any _ _ _ _ _ _ _ _).mono ?_
  rintro e w5 ⟨rfl, hK5⟩
  replace hK5 := Kept.trans (a := wB) hK0.drew hK5
  clear hHeld
  refine hK.out _ _ ?_ (fun hHeld => ?_)
  · exact (HX1.out.kept hK5).cells
  clear hK K
  try simp only [Act.put, List.setIfInBounds_toArray, List.set_cons_zero, List.set_cons_succ]
  refine wpAnyH_take (i := 12) (oi := { dst := some 19, op := Op.move (Operand.tmp 18), type := 4, pos := "isa.go:38", after := #[eD 11, eC 7], guard := none }) (v := ?_) rfl (by kernel_rfl) (by kernel_rfl) (by kernel_rfl) (fun _ _ _ h => h) (Or.inl ⟨rfl, ?_⟩) hHeld ?_
  rotate_left
  · (intro w hSw; (try dsimp only at hSw); go_simp; try with_reducible rfl)
  try simp only [Act.put, List.setIfInBounds_toArray, List.set_cons_zero, List.set_cons_succ]
  refine wpAnyH_take (i := 13) (oi := { dst := some 20, op := Op.fieldAddr 23 (Operand.tmp 1) 1, type := 0, pos := "isa.go:38", after := #[eG 12], guard := some (12, true) }) (v := undef) rfl (by kernel_rfl) (by kernel_rfl) (by kernel_rfl) (fun _ _ _ h => h) (Or.inr ⟨rfl, rfl⟩) hHeld ?_
  try simp only [Act.put, List.setIfInBounds_toArray, List.set_cons_zero, List.set_cons_succ]
  refine wpAnyH_take (i := 14) (oi := { dst := some 21, op := Op.load 3 (Operand.tmp 20), type := 3, pos := "isa.go:38", after := #[eD 13, eG 12], guard := some (12, true) }) (v := undef) rfl (by kernel_rfl) (by kernel_rfl) (by kernel_rfl) (fun _ _ _ h => h) (Or.inr ⟨rfl, rfl⟩) hHeld ?_
  try simp only [Act.put, List.setIfInBounds_toArray, List.set_cons_zero, List.set_cons_succ]
  refine wpAnyH_take (i := 15) (oi := { dst := some 22, op := Op.call { callee := Callee.value (Operand.func 44), args := #[Operand.tmp 21], argTypes := #[3] }, type := 4, pos := "isa.go:38", after := #[eD 14, eC 12, eG 12], guard := some (12, true) }) (v := undef) rfl (by kernel_rfl) (by kernel_rfl) (by kernel_rfl) (fun _ _ _ h => h) (Or.inr ⟨rfl, rfl⟩) hHeld ?_
  try simp only [Act.put, List.setIfInBounds_toArray, List.set_cons_zero, List.set_cons_succ]
  refine wpAnyH_take (i := 16) (oi := { dst := some 23, op := Op.pick (Operand.tmp 19) (Operand.tmp 22) (Operand.const (Value.bool false)), type := 4, pos := "isa.go:38", after := #[eD 12, eD 15], guard := none }) (v := ?_) rfl (by kernel_rfl) (by kernel_rfl) (by kernel_rfl) (fun _ _ _ h => h) (Or.inl ⟨rfl, ?_⟩) hHeld ?_
  rotate_left
  · (intro w hSw; (try dsimp only at hSw); go_simp; try with_reducible rfl)
  try simp only [Act.put, List.setIfInBounds_toArray, List.set_cons_zero, List.set_cons_succ]
  refine wpAnyH_take (i := 17) (oi := { dst := some 24, op := Op.build 23 #[(0, Operand.tmp 8), (1, Operand.tmp 10), (2, Operand.tmp 12), (3, Operand.tmp 14), (4, Operand.tmp 16), (6, Operand.tmp 23)], type := 23, pos := "isa.go:38", after := #[eD 1, eD 3, eD 5, eD 7, eD 9, eD 16], guard := none }) (v := ?_) rfl (by kernel_rfl) (by kernel_rfl) (by kernel_rfl) (fun _ _ _ h => h) (Or.inl ⟨rfl, ?_⟩) hHeld ?_
  rotate_left
  · (intro w hSw; (try dsimp only at hSw); go_simp; try with_reducible rfl)
  try simp only [Act.put, List.setIfInBounds_toArray, List.set_cons_zero, List.set_cons_succ]
  refine wpAnyH_ready (rs := [18]) (by kernel_rfl) (by simp) ?_
  refine AllReadyH.cons (o := { dst := none, op := Op.store 23 (Operand.tmp 2) (Operand.tmp 24), type := 0, pos := "isa.go:38", after := #[eD 17, eC 15, eP 0, eP 1, eP 2, eP 3, eP 4, eP 5, eP 6, eP 7, eP 8, eP 9, eP 10, eP 11, eP 12, eP 13, eP 14, eP 15, eP 16, eP 17], guard := none }) rfl (fun K hK => ?_) AllReadyH.nil
  obtain ⟨c0, c1, c2, c3, c4, c5, c6⟩ := (HX2.out.kept hK5).cells
  obtain ⟨f0, f1, f2, f3, f4, f5, f6⟩ := (HX2.out.kept hK5).free
  go_simp
  clear hHeld
  refine hK.out _ _ ?_ (fun hHeld => ?_)
  · exact ((HX1.out.kept hK5).other (by omega)).cells
  clear hK K
  try simp only [Act.put, List.setIfInBounds_toArray, List.set_cons_zero, List.set_cons_succ]
  refine wpAnyH_done (by kernel_rfl) ?_ _
  have R := (HX2.out.kept hK5).stored (k' := 1) (op' := op) (a' := a) (b' := I.nb op b) (c' := c) (i' := 0) (u' := false)
  have RK := (HB.out.trans hK5).store7 (B' := w.heap.size + 1) (by omega) (1) (op) (a) (I.nb op b) (c) (0) (false)
  unfold store7 at R RK
  generalize (((((((w5.setCell ⟨w.heap.size + 1, 0, none⟩ (.int .i64 (1))).setCell ⟨w.heap.size + 1, 1, none⟩ (.int .i64 (op))).setCell ⟨w.heap.size + 1, 2, none⟩ (.int .i64 (a))).setCell ⟨w.heap.size + 1, 3, none⟩ (.int .i64 (I.nb op b))).setCell ⟨w.heap.size + 1, 4, none⟩ (.int .i64 (c))).setCell ⟨w.heap.size + 1, 5, none⟩ (.int .i64 (0))).setCell ⟨w.heap.size + 1, 6, none⟩ (.bool (false))) = w7 at R RK ⊢
  obtain ⟨r0, r1, r2, r3, r4, r5, r6⟩ := R.cells
  clear R hK5 HB HX1 HX2 hHeld
  have RK := Lib.hid RK
  go_wp2_with fail
  exact bodyPost_ret (v := .agg #[.int .i64 1, .int .i64 op, .int .i64 a, .int .i64 (I.nb op b), .int .i64 c, .int .i64 0, .bool false]) (by simp [results, Try.results31, go_sem, *]) rfl ⟨rfl, RK.out⟩
set_option maxHeartbeats 2000000 in
theorem named_1t (op a b c i : Int) (w : World) :
    Calls Try.prog 31 #[.agg #[.int .i64 1, .int .i64 op, .int .i64 a, .int .i64 b, .int .i64 c, .int .i64 i, .bool true]] w fun e w' => e = .returned (.agg #[.int .i64 1, .int .i64 op, .int .i64 a, .int .i64 (I.nb op b), .int .i64 c, .int .i64 0, .bool (I.carry op)]) ∧ Kept w w' := by
  have hK0 := Kept.refl ((w.alloc (.cells #[.int .i64 1, .int .i64 op, .int .i64 a, .int .i64 b, .int .i64 c, .int .i64 i, .bool true] 23)).alloc (.cells #[.int .i64 0, .int .i64 0, .int .i64 0, .int .i64 0, .int .i64 0, .int .i64 0, .bool false] 23))
  have X1 := (Box.new 1 op a b c i true w).alloc (.cells #[.int .i64 0, .int .i64 0, .int .i64 0, .int .i64 0, .int .i64 0, .int .i64 0, .bool false] 23)
  have X2 := size_alloc1 w (.cells #[.int .i64 1, .int .i64 op, .int .i64 a, .int .i64 b, .int .i64 c, .int .i64 i, .bool true] 23) ▸ Box.new 0 0 0 0 0 0 false (w.alloc (.cells #[.int .i64 1, .int .i64 op, .int .i64 a, .int .i64 b, .int .i64 c, .int .i64 i, .bool true] 23))
  have hB := show Kept w ((w.alloc (.cells #[.int .i64 1, .int .i64 op, .int .i64 a, .int .i64 b, .int .i64 c, .int .i64 i, .bool true] 23)).alloc (.cells #[.int .i64 0, .int .i64 0, .int .i64 0, .int .i64 0, .int .i64 0, .int .i64 0, .bool false] 23)) from ((Kept.refl w).alloc _ _).alloc _ _
  go_enter Try.func31, Try.ntmps31
  go_wp2_with fail
  generalize ((w.alloc (.cells #[.int .i64 1, .int .i64 op, .int .i64 a, .int .i64 b, .int .i64 c, .int .i64 i, .bool true] 23)).alloc (.cells #[.int .i64 0, .int .i64 0, .int .i64 0, .int .i64 0, .int .i64 0, .int .i64 0, .bool false] 23)) = wB at hK0 hB X1 X2
  have HB := Lib.hid hB
  have HX1 := Lib.hid X1
  have HX2 := Lib.hid X2
  clear hB X1 X2
  refine wp_region_held_drew (S := fun w' => w'.cell? ⟨w.heap.size, 0, none⟩ = some (.int .i64 1) ∧ w'.cell? ⟨w.heap.size, 1, none⟩ = some (.int .i64 op) ∧ w'.cell? ⟨w.heap.size, 2, none⟩ = some (.int .i64 a) ∧ w'.cell? ⟨w.heap.size, 3, none⟩ = some (.int .i64 b) ∧ w'.cell? ⟨w.heap.size, 4, none⟩ = some (.int .i64 c) ∧ w'.cell? ⟨w.heap.size, 5, none⟩ = some (.int .i64 i) ∧ w'.cell? ⟨w.heap.size, 6, none⟩ = some (.bool true)) (by kernel_rfl) ?_ (fun hHeld => ?_)
  · exact (HX1.out.kept hK0.drew).cells
  refine wpAnyH_take (i := 0) (oi := { dst := some 7, op := Op.fieldAddr 23 (Operand.tmp 1) 0, type := 0, pos := "isa.go:38", after := #[], guard := none }) (v := ?_) rfl (by kernel_rfl) (by kernel_rfl) (by kernel_rfl) (fun _ _ _ h => h) (Or.inl ⟨rfl, ?_⟩) hHeld ?_
  rotate_left
  · (intro w hSw; (try dsimp only at hSw); go_simp; try with_reducible rfl)
  try simp only [Act.put, List.setIfInBounds_toArray, List.set_cons_zero, List.set_cons_succ]
  refine wpAnyH_take (i := 1) (oi := { dst := some 8, op := Op.load 3 (Operand.tmp 7), type := 3, pos := "isa.go:38", after := #[eD 0], guard := none }) (v := ?_) rfl (by kernel_rfl) (by kernel_rfl) (by kernel_rfl) (fun _ _ _ h => h) (Or.inl ⟨rfl, ?_⟩) hHeld ?_
  rotate_left
  · (intro w hSw; (try dsimp only at hSw); go_simp; try with_reducible rfl)
  try simp only [Act.put, List.setIfInBounds_toArray, List.set_cons_zero, List.set_cons_succ]
  refine wpAnyH_take (i := 2) (oi := { dst := some 9, op := Op.fieldAddr 23 (Operand.tmp 1) 1, type := 0, pos := "isa.go:38", after := #[], guard := none }) (v := ?_) rfl (by kernel_rfl) (by kernel_rfl) (by kernel_rfl) (fun _ _ _ h => h) (Or.inl ⟨rfl, ?_⟩) hHeld ?_
  rotate_left
  · (intro w hSw; (try dsimp only at hSw); go_simp; try with_reducible rfl)
  try simp only [Act.put, List.setIfInBounds_toArray, List.set_cons_zero, List.set_cons_succ]
  refine wpAnyH_take (i := 3) (oi := { dst := some 10, op := Op.load 3 (Operand.tmp 9), type := 3, pos := "isa.go:38", after := #[eD 2], guard := none }) (v := ?_) rfl (by kernel_rfl) (by kernel_rfl) (by kernel_rfl) (fun _ _ _ h => h) (Or.inl ⟨rfl, ?_⟩) hHeld ?_
  rotate_left
  · (intro w hSw; (try dsimp only at hSw); go_simp; try with_reducible rfl)
  try simp only [Act.put, List.setIfInBounds_toArray, List.set_cons_zero, List.set_cons_succ]
  refine wpAnyH_take (i := 4) (oi := { dst := some 11, op := Op.fieldAddr 23 (Operand.tmp 1) 2, type := 0, pos := "isa.go:38", after := #[], guard := none }) (v := ?_) rfl (by kernel_rfl) (by kernel_rfl) (by kernel_rfl) (fun _ _ _ h => h) (Or.inl ⟨rfl, ?_⟩) hHeld ?_
  rotate_left
  · (intro w hSw; (try dsimp only at hSw); go_simp; try with_reducible rfl)
  try simp only [Act.put, List.setIfInBounds_toArray, List.set_cons_zero, List.set_cons_succ]
  refine wpAnyH_take (i := 5) (oi := { dst := some 12, op := Op.load 3 (Operand.tmp 11), type := 3, pos := "isa.go:38", after := #[eD 4], guard := none }) (v := ?_) rfl (by kernel_rfl) (by kernel_rfl) (by kernel_rfl) (fun _ _ _ h => h) (Or.inl ⟨rfl, ?_⟩) hHeld ?_
  rotate_left
  · (intro w hSw; (try dsimp only at hSw); go_simp; try with_reducible rfl)
  try simp only [Act.put, List.setIfInBounds_toArray, List.set_cons_zero, List.set_cons_succ]
  refine wpAnyH_take (i := 6) (oi := { dst := some 13, op := Op.load 23 (Operand.tmp 1), type := 23, pos := "isa.go:38", after := #[], guard := none }) (v := ?_) rfl (by kernel_rfl) (by kernel_rfl) (by kernel_rfl) (fun _ _ _ h => h) (Or.inl ⟨rfl, ?_⟩) hHeld ?_
  rotate_left
  · (intro w hSw; (try dsimp only at hSw); go_simp; try with_reducible rfl)
  try simp only [Act.put, List.setIfInBounds_toArray, List.set_cons_zero, List.set_cons_succ]
  refine wpAnyH_take (i := 8) (oi := { dst := some 15, op := Op.fieldAddr 23 (Operand.tmp 1) 4, type := 0, pos := "isa.go:38", after := #[], guard := none }) (v := ?_) rfl (by kernel_rfl) (by kernel_rfl) (by kernel_rfl) (fun _ _ _ h => h) (Or.inl ⟨rfl, ?_⟩) hHeld ?_
  rotate_left
  · (intro w hSw; (try dsimp only at hSw); go_simp; try with_reducible rfl)
  try simp only [Act.put, List.setIfInBounds_toArray, List.set_cons_zero, List.set_cons_succ]
  refine wpAnyH_take (i := 9) (oi := { dst := some 16, op := Op.load 3 (Operand.tmp 15), type := 3, pos := "isa.go:38", after := #[eD 8], guard := none }) (v := ?_) rfl (by kernel_rfl) (by kernel_rfl) (by kernel_rfl) (fun _ _ _ h => h) (Or.inl ⟨rfl, ?_⟩) hHeld ?_
  rotate_left
  · (intro w hSw; (try dsimp only at hSw); go_simp; try with_reducible rfl)
  try simp only [Act.put, List.setIfInBounds_toArray, List.set_cons_zero, List.set_cons_succ]
  refine wpAnyH_take (i := 10) (oi := { dst := some 17, op := Op.fieldAddr 23 (Operand.tmp 1) 6, type := 0, pos := "isa.go:38", after := #[], guard := none }) (v := ?_) rfl (by kernel_rfl) (by kernel_rfl) (by kernel_rfl) (fun _ _ _ h => h) (Or.inl ⟨rfl, ?_⟩) hHeld ?_
  rotate_left
  · (intro w hSw; (try dsimp only at hSw); go_simp; try with_reducible rfl)
  try simp only [Act.put, List.setIfInBounds_toArray, List.set_cons_zero, List.set_cons_succ]
  refine wpAnyH_take (i := 11) (oi := { dst := some 18, op := Op.load 4 (Operand.tmp 17), type := 4, pos := "isa.go:38", after := #[eD 10], guard := none }) (v := ?_) rfl (by kernel_rfl) (by kernel_rfl) (by kernel_rfl) (fun _ _ _ h => h) (Or.inl ⟨rfl, ?_⟩) hHeld ?_
  rotate_left
  · (intro w hSw; (try dsimp only at hSw); go_simp; try with_reducible rfl)
  try simp only [Act.put, List.setIfInBounds_toArray, List.set_cons_zero, List.set_cons_succ]
  refine wpAnyH_ready (rs := [7]) (by kernel_rfl) (by simp) ?_
  refine AllReadyH.cons (o := { dst := some 14, op := Op.call { callee := Callee.value (Operand.func 43), args := #[Operand.tmp 13], argTypes := #[23] }, type := 3, pos := "isa.go:38", after := #[eD 6], guard := none }) rfl (fun K hK => ?_) AllReadyH.nil
  go_simp
  go_at_call 43
  refine (namedB_any _ _ _ _ _ _ _ _).mono ?_
  rintro e w5 ⟨rfl, hK5⟩
  replace hK5 := Kept.trans (a := wB) hK0.drew hK5
  clear hHeld
  refine hK.out _ _ ?_ (fun hHeld => ?_)
  · exact (HX1.out.kept hK5).cells
  clear hK K
  try simp only [Act.put, List.setIfInBounds_toArray, List.set_cons_zero, List.set_cons_succ]
  refine wpAnyH_take (i := 12) (oi := { dst := some 19, op := Op.move (Operand.tmp 18), type := 4, pos := "isa.go:38", after := #[eD 11, eC 7], guard := none }) (v := ?_) rfl (by kernel_rfl) (by kernel_rfl) (by kernel_rfl) (fun _ _ _ h => h) (Or.inl ⟨rfl, ?_⟩) hHeld ?_
  rotate_left
  · (intro w hSw; (try dsimp only at hSw); go_simp; try with_reducible rfl)
  try simp only [Act.put, List.setIfInBounds_toArray, List.set_cons_zero, List.set_cons_succ]
  refine wpAnyH_take (i := 13) (oi := { dst := some 20, op := Op.fieldAddr 23 (Operand.tmp 1) 1, type := 0, pos := "isa.go:38", after := #[eG 12], guard := some (12, true) }) (v := ?_) rfl (by kernel_rfl) (by kernel_rfl) (by kernel_rfl) (fun _ _ _ h => h) (Or.inl ⟨rfl, ?_⟩) hHeld ?_
  rotate_left
  · (intro w hSw; (try dsimp only at hSw); go_simp; try with_reducible rfl)
  try simp only [Act.put, List.setIfInBounds_toArray, List.set_cons_zero, List.set_cons_succ]
  refine wpAnyH_take (i := 14) (oi := { dst := some 21, op := Op.load 3 (Operand.tmp 20), type := 3, pos := "isa.go:38", after := #[eD 13, eG 12], guard := some (12, true) }) (v := ?_) rfl (by kernel_rfl) (by kernel_rfl) (by kernel_rfl) (fun _ _ _ h => h) (Or.inl ⟨rfl, ?_⟩) hHeld ?_
  rotate_left
  · (intro w hSw; (try dsimp only at hSw); go_simp; try with_reducible rfl)
  try simp only [Act.put, List.setIfInBounds_toArray, List.set_cons_zero, List.set_cons_succ]
  refine wpAnyH_ready (rs := [15]) (by kernel_rfl) (by simp) ?_
  refine AllReadyH.cons (o := { dst := some 22, op := Op.call { callee := Callee.value (Operand.func 44), args := #[Operand.tmp 21], argTypes := #[3] }, type := 4, pos := "isa.go:38", after := #[eD 14, eC 12, eG 12], guard := some (12, true) }) rfl (fun K hK => ?_) AllReadyH.nil
  go_simp
  go_at_call 44
  refine (hasCarry_any _ _).mono ?_
  rintro e w6 ⟨rfl, rfl⟩
  clear hHeld
  refine hK.out _ _ ?_ (fun hHeld => ?_)
  · exact (HX1.out.kept hK5).cells
  clear hK K
  try simp only [Act.put, List.setIfInBounds_toArray, List.set_cons_zero, List.set_cons_succ]
  refine wpAnyH_take (i := 16) (oi := { dst := some 23, op := Op.pick (Operand.tmp 19) (Operand.tmp 22) (Operand.const (Value.bool false)), type := 4, pos := "isa.go:38", after := #[eD 12, eD 15], guard := none }) (v := ?_) rfl (by kernel_rfl) (by kernel_rfl) (by kernel_rfl) (fun _ _ _ h => h) (Or.inl ⟨rfl, ?_⟩) hHeld ?_
  rotate_left
  · (intro w hSw; (try dsimp only at hSw); go_simp; try with_reducible rfl)
  try simp only [Act.put, List.setIfInBounds_toArray, List.set_cons_zero, List.set_cons_succ]
  refine wpAnyH_take (i := 17) (oi := { dst := some 24, op := Op.build 23 #[(0, Operand.tmp 8), (1, Operand.tmp 10), (2, Operand.tmp 12), (3, Operand.tmp 14), (4, Operand.tmp 16), (6, Operand.tmp 23)], type := 23, pos := "isa.go:38", after := #[eD 1, eD 3, eD 5, eD 7, eD 9, eD 16], guard := none }) (v := ?_) rfl (by kernel_rfl) (by kernel_rfl) (by kernel_rfl) (fun _ _ _ h => h) (Or.inl ⟨rfl, ?_⟩) hHeld ?_
  rotate_left
  · (intro w hSw; (try dsimp only at hSw); go_simp; try with_reducible rfl)
  try simp only [Act.put, List.setIfInBounds_toArray, List.set_cons_zero, List.set_cons_succ]
  refine wpAnyH_ready (rs := [18]) (by kernel_rfl) (by simp) ?_
  refine AllReadyH.cons (o := { dst := none, op := Op.store 23 (Operand.tmp 2) (Operand.tmp 24), type := 0, pos := "isa.go:38", after := #[eD 17, eC 15, eP 0, eP 1, eP 2, eP 3, eP 4, eP 5, eP 6, eP 7, eP 8, eP 9, eP 10, eP 11, eP 12, eP 13, eP 14, eP 15, eP 16, eP 17], guard := none }) rfl (fun K hK => ?_) AllReadyH.nil
  obtain ⟨c0, c1, c2, c3, c4, c5, c6⟩ := (HX2.out.kept hK5).cells
  obtain ⟨f0, f1, f2, f3, f4, f5, f6⟩ := (HX2.out.kept hK5).free
  go_simp
  clear hHeld
  refine hK.out _ _ ?_ (fun hHeld => ?_)
  · exact ((HX1.out.kept hK5).other (by omega)).cells
  clear hK K
  try simp only [Act.put, List.setIfInBounds_toArray, List.set_cons_zero, List.set_cons_succ]
  refine wpAnyH_done (by kernel_rfl) ?_ _
  have R := (HX2.out.kept hK5).stored (k' := 1) (op' := op) (a' := a) (b' := I.nb op b) (c' := c) (i' := 0) (u' := I.carry op)
  have RK := (HB.out.trans hK5).store7 (B' := w.heap.size + 1) (by omega) (1) (op) (a) (I.nb op b) (c) (0) (I.carry op)
  unfold store7 at R RK
  generalize (((((((w5.setCell ⟨w.heap.size + 1, 0, none⟩ (.int .i64 (1))).setCell ⟨w.heap.size + 1, 1, none⟩ (.int .i64 (op))).setCell ⟨w.heap.size + 1, 2, none⟩ (.int .i64 (a))).setCell ⟨w.heap.size + 1, 3, none⟩ (.int .i64 (I.nb op b))).setCell ⟨w.heap.size + 1, 4, none⟩ (.int .i64 (c))).setCell ⟨w.heap.size + 1, 5, none⟩ (.int .i64 (0))).setCell ⟨w.heap.size + 1, 6, none⟩ (.bool (I.carry op))) = w7 at R RK ⊢
  obtain ⟨r0, r1, r2, r3, r4, r5, r6⟩ := R.cells
  clear R hK5 HB HX1 HX2 hHeld
  have RK := Lib.hid RK
  go_wp2_with fail
  exact bodyPost_ret (v := .agg #[.int .i64 1, .int .i64 op, .int .i64 a, .int .i64 (I.nb op b), .int .i64 c, .int .i64 0, .bool (I.carry op)]) (by simp [results, Try.results31, go_sem, *]) rfl ⟨rfl, RK.out⟩
set_option maxHeartbeats 2000000 in
theorem named_2f (op a b c i : Int) (w : World) :
    Calls Try.prog 31 #[.agg #[.int .i64 2, .int .i64 op, .int .i64 a, .int .i64 b, .int .i64 c, .int .i64 i, .bool false]] w fun e w' => e = .returned (.agg #[.int .i64 2, .int .i64 op, .int .i64 a, .int .i64 (I.nb op b), .int .i64 0, .int .i64 i, .bool false]) ∧ Kept w w' := by
  have hK0 := Kept.refl ((w.alloc (.cells #[.int .i64 2, .int .i64 op, .int .i64 a, .int .i64 b, .int .i64 c, .int .i64 i, .bool false] 23)).alloc (.cells #[.int .i64 0, .int .i64 0, .int .i64 0, .int .i64 0, .int .i64 0, .int .i64 0, .bool false] 23))
  have X1 := (Box.new 2 op a b c i false w).alloc (.cells #[.int .i64 0, .int .i64 0, .int .i64 0, .int .i64 0, .int .i64 0, .int .i64 0, .bool false] 23)
  have X2 := size_alloc1 w (.cells #[.int .i64 2, .int .i64 op, .int .i64 a, .int .i64 b, .int .i64 c, .int .i64 i, .bool false] 23) ▸ Box.new 0 0 0 0 0 0 false (w.alloc (.cells #[.int .i64 2, .int .i64 op, .int .i64 a, .int .i64 b, .int .i64 c, .int .i64 i, .bool false] 23))
  have hB := show Kept w ((w.alloc (.cells #[.int .i64 2, .int .i64 op, .int .i64 a, .int .i64 b, .int .i64 c, .int .i64 i, .bool false] 23)).alloc (.cells #[.int .i64 0, .int .i64 0, .int .i64 0, .int .i64 0, .int .i64 0, .int .i64 0, .bool false] 23)) from ((Kept.refl w).alloc _ _).alloc _ _
  go_enter Try.func31, Try.ntmps31
  go_wp2_with fail
  generalize ((w.alloc (.cells #[.int .i64 2, .int .i64 op, .int .i64 a, .int .i64 b, .int .i64 c, .int .i64 i, .bool false] 23)).alloc (.cells #[.int .i64 0, .int .i64 0, .int .i64 0, .int .i64 0, .int .i64 0, .int .i64 0, .bool false] 23)) = wB at hK0 hB X1 X2
  have HB := Lib.hid hB
  have HX1 := Lib.hid X1
  have HX2 := Lib.hid X2
  clear hB X1 X2
  refine wp_region_held_drew (S := fun w' => w'.cell? ⟨w.heap.size, 0, none⟩ = some (.int .i64 2) ∧ w'.cell? ⟨w.heap.size, 1, none⟩ = some (.int .i64 op) ∧ w'.cell? ⟨w.heap.size, 2, none⟩ = some (.int .i64 a) ∧ w'.cell? ⟨w.heap.size, 3, none⟩ = some (.int .i64 b) ∧ w'.cell? ⟨w.heap.size, 4, none⟩ = some (.int .i64 c) ∧ w'.cell? ⟨w.heap.size, 5, none⟩ = some (.int .i64 i) ∧ w'.cell? ⟨w.heap.size, 6, none⟩ = some (.bool false)) (by kernel_rfl) ?_ (fun hHeld => ?_)
  · exact (HX1.out.kept hK0.drew).cells
  refine wpAnyH_take (i := 0) (oi := { dst := some 27, op := Op.fieldAddr 23 (Operand.tmp 1) 0, type := 0, pos := "isa.go:40", after := #[], guard := none }) (v := ?_) rfl (by kernel_rfl) (by kernel_rfl) (by kernel_rfl) (fun _ _ _ h => h) (Or.inl ⟨rfl, ?_⟩) hHeld ?_
  rotate_left
  · (intro w hSw; (try dsimp only at hSw); go_simp; try with_reducible rfl)
  try simp only [Act.put, List.setIfInBounds_toArray, List.set_cons_zero, List.set_cons_succ]
  refine wpAnyH_take (i := 1) (oi := { dst := some 28, op := Op.load 3 (Operand.tmp 27), type := 3, pos := "isa.go:40", after := #[eD 0], guard := none }) (v := ?_) rfl (by kernel_rfl) (by kernel_rfl) (by kernel_rfl) (fun _ _ _ h => h) (Or.inl ⟨rfl, ?_⟩) hHeld ?_
  rotate_left
  · (intro w hSw; (try dsimp only at hSw); go_simp; try with_reducible rfl)
  try simp only [Act.put, List.setIfInBounds_toArray, List.set_cons_zero, List.set_cons_succ]
  refine wpAnyH_take (i := 2) (oi := { dst := some 29, op := Op.fieldAddr 23 (Operand.tmp 1) 1, type := 0, pos := "isa.go:40", after := #[], guard := none }) (v := ?_) rfl (by kernel_rfl) (by kernel_rfl) (by kernel_rfl) (fun _ _ _ h => h) (Or.inl ⟨rfl, ?_⟩) hHeld ?_
  rotate_left
  · (intro w hSw; (try dsimp only at hSw); go_simp; try with_reducible rfl)
  try simp only [Act.put, List.setIfInBounds_toArray, List.set_cons_zero, List.set_cons_succ]
  refine wpAnyH_take (i := 3) (oi := { dst := some 30, op := Op.load 3 (Operand.tmp 29), type := 3, pos := "isa.go:40", after := #[eD 2], guard := none }) (v := ?_) rfl (by kernel_rfl) (by kernel_rfl) (by kernel_rfl) (fun _ _ _ h => h) (Or.inl ⟨rfl, ?_⟩) hHeld ?_
  rotate_left
  · (intro w hSw; (try dsimp only at hSw); go_simp; try with_reducible rfl)
  try simp only [Act.put, List.setIfInBounds_toArray, List.set_cons_zero, List.set_cons_succ]
  refine wpAnyH_take (i := 4) (oi := { dst := some 31, op := Op.fieldAddr 23 (Operand.tmp 1) 2, type := 0, pos := "isa.go:40", after := #[], guard := none }) (v := ?_) rfl (by kernel_rfl) (by kernel_rfl) (by kernel_rfl) (fun _ _ _ h => h) (Or.inl ⟨rfl, ?_⟩) hHeld ?_
  rotate_left
  · (intro w hSw; (try dsimp only at hSw); go_simp; try with_reducible rfl)
  try simp only [Act.put, List.setIfInBounds_toArray, List.set_cons_zero, List.set_cons_succ]
  refine wpAnyH_take (i := 5) (oi := { dst := some 32, op := Op.load 3 (Operand.tmp 31), type := 3, pos := "isa.go:40", after := #[eD 4], guard := none }) (v := ?_) rfl (by kernel_rfl) (by kernel_rfl) (by kernel_rfl) (fun _ _ _ h => h) (Or.inl ⟨rfl, ?_⟩) hHeld ?_
  rotate_left
  · (intro w hSw; (try dsimp only at hSw); go_simp; try with_reducible rfl)
  try simp only [Act.put, List.setIfInBounds_toArray, List.set_cons_zero, List.set_cons_succ]
  refine wpAnyH_take (i := 6) (oi := { dst := some 33, op := Op.load 23 (Operand.tmp 1), type := 23, pos := "isa.go:40", after := #[], guard := none }) (v := ?_) rfl (by kernel_rfl) (by kernel_rfl) (by kernel_rfl) (fun _ _ _ h => h) (Or.inl ⟨rfl, ?_⟩) hHeld ?_
  rotate_left
  · (intro w hSw; (try dsimp only at hSw); go_simp; try with_reducible rfl)
  try simp only [Act.put, List.setIfInBounds_toArray, List.set_cons_zero, List.set_cons_succ]
  refine wpAnyH_take (i := 8) (oi := { dst := some 35, op := Op.fieldAddr 23 (Operand.tmp 1) 5, type := 0, pos := "isa.go:40", after := #[], guard := none }) (v := ?_) rfl (by kernel_rfl) (by kernel_rfl) (by kernel_rfl) (fun _ _ _ h => h) (Or.inl ⟨rfl, ?_⟩) hHeld ?_
  rotate_left
  · (intro w hSw; (try dsimp only at hSw); go_simp; try with_reducible rfl)
  try simp only [Act.put, List.setIfInBounds_toArray, List.set_cons_zero, List.set_cons_succ]
  refine wpAnyH_take (i := 9) (oi := { dst := some 36, op := Op.load 3 (Operand.tmp 35), type := 3, pos := "isa.go:40", after := #[eD 8], guard := none }) (v := ?_) rfl (by kernel_rfl) (by kernel_rfl) (by kernel_rfl) (fun _ _ _ h => h) (Or.inl ⟨rfl, ?_⟩) hHeld ?_
  rotate_left
  · (intro w hSw; (try dsimp only at hSw); go_simp; try with_reducible rfl)
  try simp only [Act.put, List.setIfInBounds_toArray, List.set_cons_zero, List.set_cons_succ]
  refine wpAnyH_take (i := 10) (oi := { dst := some 37, op := Op.fieldAddr 23 (Operand.tmp 1) 6, type := 0, pos := "isa.go:40", after := #[], guard := none }) (v := ?_) rfl (by kernel_rfl) (by kernel_rfl) (by kernel_rfl) (fun _ _ _ h => h) (Or.inl ⟨rfl, ?_⟩) hHeld ?_
  rotate_left
  · (intro w hSw; (try dsimp only at hSw); go_simp; try with_reducible rfl)
  try simp only [Act.put, List.setIfInBounds_toArray, List.set_cons_zero, List.set_cons_succ]
  refine wpAnyH_take (i := 11) (oi := { dst := some 38, op := Op.load 4 (Operand.tmp 37), type := 4, pos := "isa.go:40", after := #[eD 10], guard := none }) (v := ?_) rfl (by kernel_rfl) (by kernel_rfl) (by kernel_rfl) (fun _ _ _ h => h) (Or.inl ⟨rfl, ?_⟩) hHeld ?_
  rotate_left
  · (intro w hSw; (try dsimp only at hSw); go_simp; try with_reducible rfl)
  try simp only [Act.put, List.setIfInBounds_toArray, List.set_cons_zero, List.set_cons_succ]
  refine wpAnyH_ready (rs := [7]) (by kernel_rfl) (by simp) ?_
  refine AllReadyH.cons (o := { dst := some 34, op := Op.call { callee := Callee.value (Operand.func 43), args := #[Operand.tmp 33], argTypes := #[23] }, type := 3, pos := "isa.go:40", after := #[eD 6], guard := none }) rfl (fun K hK => ?_) AllReadyH.nil
  go_simp
  go_at_call 43
  refine (namedB_any _ _ _ _ _ _ _ _).mono ?_
  rintro e w5 ⟨rfl, hK5⟩
  replace hK5 := Kept.trans (a := wB) hK0.drew hK5
  clear hHeld
  refine hK.out _ _ ?_ (fun hHeld => ?_)
  · exact (HX1.out.kept hK5).cells
  clear hK K
  try simp only [Act.put, List.setIfInBounds_toArray, List.set_cons_zero, List.set_cons_succ]
  refine wpAnyH_take (i := 12) (oi := { dst := some 39, op := Op.move (Operand.tmp 38), type := 4, pos := "isa.go:40", after := #[eD 11, eC 7], guard := none }) (v := ?_) rfl (by kernel_rfl) (by kernel_rfl) (by kernel_rfl) (fun _ _ _ h => h) (Or.inl ⟨rfl, ?_⟩) hHeld ?_
  rotate_left
  · (intro w hSw; (try dsimp only at hSw); go_simp; try with_reducible rfl)
  try simp only [Act.put, List.setIfInBounds_toArray, List.set_cons_zero, List.set_cons_succ]
  refine wpAnyH_take (i := 13) (oi := { dst := some 40, op := Op.fieldAddr 23 (Operand.tmp 1) 1, type := 0, pos := "isa.go:40", after := #[eG 12], guard := some (12, true) }) (v := undef) rfl (by kernel_rfl) (by kernel_rfl) (by kernel_rfl) (fun _ _ _ h => h) (Or.inr ⟨rfl, rfl⟩) hHeld ?_
  try simp only [Act.put, List.setIfInBounds_toArray, List.set_cons_zero, List.set_cons_succ]
  refine wpAnyH_take (i := 14) (oi := { dst := some 41, op := Op.load 3 (Operand.tmp 40), type := 3, pos := "isa.go:40", after := #[eD 13, eG 12], guard := some (12, true) }) (v := undef) rfl (by kernel_rfl) (by kernel_rfl) (by kernel_rfl) (fun _ _ _ h => h) (Or.inr ⟨rfl, rfl⟩) hHeld ?_
  try simp only [Act.put, List.setIfInBounds_toArray, List.set_cons_zero, List.set_cons_succ]
  refine wpAnyH_take (i := 15) (oi := { dst := some 42, op := Op.binOp BinOp.eql 3 (Operand.tmp 41) (Operand.const (Value.int IntKind.i64 0)) 3, type := 4, pos := "isa.go:40", after := #[eD 14, eG 12], guard := some (12, true) }) (v := undef) rfl (by kernel_rfl) (by kernel_rfl) (by kernel_rfl) (fun _ _ _ h => h) (Or.inr ⟨rfl, rfl⟩) hHeld ?_
  try simp only [Act.put, List.setIfInBounds_toArray, List.set_cons_zero, List.set_cons_succ]
  refine wpAnyH_take (i := 16) (oi := { dst := some 43, op := Op.move (Operand.tmp 42), type := 4, pos := "isa.go:40", after := #[eD 15, eC 12, eG 12], guard := some (12, true) }) (v := undef) rfl (by kernel_rfl) (by kernel_rfl) (by kernel_rfl) (fun _ _ _ h => h) (Or.inr ⟨rfl, rfl⟩) hHeld ?_
  try simp only [Act.put, List.setIfInBounds_toArray, List.set_cons_zero, List.set_cons_succ]
  refine wpAnyH_take (i := 17) (oi := { dst := some 44, op := Op.fieldAddr 23 (Operand.tmp 1) 1, type := 0, pos := "isa.go:40", after := #[eG 16], guard := some (16, false) }) (v := undef) rfl (by kernel_rfl) (by kernel_rfl) (by kernel_rfl) (fun _ _ _ h => h) (Or.inr ⟨rfl, rfl⟩) hHeld ?_
  try simp only [Act.put, List.setIfInBounds_toArray, List.set_cons_zero, List.set_cons_succ]
  refine wpAnyH_take (i := 18) (oi := { dst := some 45, op := Op.load 3 (Operand.tmp 44), type := 3, pos := "isa.go:40", after := #[eD 17, eG 16], guard := some (16, false) }) (v := undef) rfl (by kernel_rfl) (by kernel_rfl) (by kernel_rfl) (fun _ _ _ h => h) (Or.inr ⟨rfl, rfl⟩) hHeld ?_
  try simp only [Act.put, List.setIfInBounds_toArray, List.set_cons_zero, List.set_cons_succ]
  refine wpAnyH_take (i := 19) (oi := { dst := some 46, op := Op.call { callee := Callee.value (Operand.func 44), args := #[Operand.tmp 45], argTypes := #[3] }, type := 4, pos := "isa.go:40", after := #[eD 18, eC 16, eG 16], guard := some (16, false) }) (v := undef) rfl (by kernel_rfl) (by kernel_rfl) (by kernel_rfl) (fun _ _ _ h => h) (Or.inr ⟨rfl, rfl⟩) hHeld ?_
  try simp only [Act.put, List.setIfInBounds_toArray, List.set_cons_zero, List.set_cons_succ]
  refine wpAnyH_take (i := 20) (oi := { dst := some 47, op := Op.pick (Operand.tmp 43) (Operand.const (Value.bool true)) (Operand.tmp 46), type := 4, pos := "isa.go:40", after := #[eD 16, eD 19, eG 12], guard := some (12, true) }) (v := undef) rfl (by kernel_rfl) (by kernel_rfl) (by kernel_rfl) (fun _ _ _ h => h) (Or.inr ⟨rfl, rfl⟩) hHeld ?_
  try simp only [Act.put, List.setIfInBounds_toArray, List.set_cons_zero, List.set_cons_succ]
  refine wpAnyH_take (i := 21) (oi := { dst := some 48, op := Op.pick (Operand.tmp 39) (Operand.tmp 47) (Operand.const (Value.bool false)), type := 4, pos := "isa.go:40", after := #[eD 12, eD 20], guard := none }) (v := ?_) rfl (by kernel_rfl) (by kernel_rfl) (by kernel_rfl) (fun _ _ _ h => h) (Or.inl ⟨rfl, ?_⟩) hHeld ?_
  rotate_left
  · (intro w hSw; (try dsimp only at hSw); go_simp; try with_reducible rfl)
  try simp only [Act.put, List.setIfInBounds_toArray, List.set_cons_zero, List.set_cons_succ]
  refine wpAnyH_take (i := 22) (oi := { dst := some 49, op := Op.build 23 #[(0, Operand.tmp 28), (1, Operand.tmp 30), (2, Operand.tmp 32), (3, Operand.tmp 34), (5, Operand.tmp 36), (6, Operand.tmp 48)], type := 23, pos := "isa.go:40", after := #[eD 1, eD 3, eD 5, eD 7, eD 9, eD 21], guard := none }) (v := ?_) rfl (by kernel_rfl) (by kernel_rfl) (by kernel_rfl) (fun _ _ _ h => h) (Or.inl ⟨rfl, ?_⟩) hHeld ?_
  rotate_left
  · (intro w hSw; (try dsimp only at hSw); go_simp; try with_reducible rfl)
  try simp only [Act.put, List.setIfInBounds_toArray, List.set_cons_zero, List.set_cons_succ]
  refine wpAnyH_ready (rs := [23]) (by kernel_rfl) (by simp) ?_
  refine AllReadyH.cons (o := { dst := none, op := Op.store 23 (Operand.tmp 2) (Operand.tmp 49), type := 0, pos := "isa.go:40", after := #[eD 22, eC 19, eP 0, eP 1, eP 2, eP 3, eP 4, eP 5, eP 6, eP 7, eP 8, eP 9, eP 10, eP 11, eP 12, eP 13, eP 14, eP 15, eP 16, eP 17, eP 18, eP 19, eP 20, eP 21, eP 22], guard := none }) rfl (fun K hK => ?_) AllReadyH.nil
  obtain ⟨c0, c1, c2, c3, c4, c5, c6⟩ := (HX2.out.kept hK5).cells
  obtain ⟨f0, f1, f2, f3, f4, f5, f6⟩ := (HX2.out.kept hK5).free
  go_simp
  clear hHeld
  refine hK.out _ _ ?_ (fun hHeld => ?_)
  · exact ((HX1.out.kept hK5).other (by omega)).cells
  clear hK K
  try simp only [Act.put, List.setIfInBounds_toArray, List.set_cons_zero, List.set_cons_succ]
  refine wpAnyH_done (by kernel_rfl) ?_ _
  have R := (HX2.out.kept hK5).stored (k' := 2) (op' := op) (a' := a) (b' := I.nb op b) (c' := 0) (i' := i) (u' := false)
  have RK := (HB.out.trans hK5).store7 (B' := w.heap.size + 1) (by omega) (2) (op) (a) (I.nb op b) (0) (i) (false)
  unfold store7 at R RK
  generalize (((((((w5.setCell ⟨w.heap.size + 1, 0, none⟩ (.int .i64 (2))).setCell ⟨w.heap.size + 1, 1, none⟩ (.int .i64 (op))).setCell ⟨w.heap.size + 1, 2, none⟩ (.int .i64 (a))).setCell ⟨w.heap.size + 1, 3, none⟩ (.int .i64 (I.nb op b))).setCell ⟨w.heap.size + 1, 4, none⟩ (.int .i64 (0))).setCell ⟨w.heap.size + 1, 5, none⟩ (.int .i64 (i))).setCell ⟨w.heap.size + 1, 6, none⟩ (.bool (false))) = w7 at R RK ⊢
  obtain ⟨r0, r1, r2, r3, r4, r5, r6⟩ := R.cells
  clear R hK5 HB HX1 HX2 hHeld
  have RK := Lib.hid RK
  go_wp2_with fail
  exact bodyPost_ret (v := .agg #[.int .i64 2, .int .i64 op, .int .i64 a, .int .i64 (I.nb op b), .int .i64 0, .int .i64 i, .bool false]) (by simp [results, Try.results31, go_sem, *]) rfl ⟨rfl, RK.out⟩
set_option maxHeartbeats 2000000 in
theorem named_2z (a b c i : Int) (w : World) :
    Calls Try.prog 31 #[.agg #[.int .i64 2, .int .i64 0, .int .i64 a, .int .i64 b, .int .i64 c, .int .i64 i, .bool true]] w fun e w' => e = .returned (.agg #[.int .i64 2, .int .i64 0, .int .i64 a, .int .i64 (I.nb 0 b), .int .i64 0, .int .i64 i, .bool true]) ∧ Kept w w' := by
  have hK0 := Kept.refl ((w.alloc (.cells #[.int .i64 2, .int .i64 0, .int .i64 a, .int .i64 b, .int .i64 c, .int .i64 i, .bool true] 23)).alloc (.cells #[.int .i64 0, .int .i64 0, .int .i64 0, .int .i64 0, .int .i64 0, .int .i64 0, .bool false] 23))
  have X1 := (Box.new 2 0 a b c i true w).alloc (.cells #[.int .i64 0, .int .i64 0, .int .i64 0, .int .i64 0, .int .i64 0, .int .i64 0, .bool false] 23)
  have X2 := size_alloc1 w (.cells #[.int .i64 2, .int .i64 0, .int .i64 a, .int .i64 b, .int .i64 c, .int .i64 i, .bool true] 23) ▸ Box.new 0 0 0 0 0 0 false (w.alloc (.cells #[.int .i64 2, .int .i64 0, .int .i64 a, .int .i64 b, .int .i64 c, .int .i64 i, .bool true] 23))
  have hB := show Kept w ((w.alloc (.cells #[.int .i64 2, .int .i64 0, .int .i64 a, .int .i64 b, .int .i64 c, .int .i64 i, .bool true] 23)).alloc (.cells #[.int .i64 0, .int .i64 0, .int .i64 0, .int .i64 0, .int .i64 0, .int .i64 0, .bool false] 23)) from ((Kept.refl w).alloc _ _).alloc _ _
  go_enter Try.func31, Try.ntmps31
  go_wp2_with fail
  generalize ((w.alloc (.cells #[.int .i64 2, .int .i64 0, .int .i64 a, .int .i64 b, .int .i64 c, .int .i64 i, .bool true] 23)).alloc (.cells #[.int .i64 0, .int .i64 0, .int .i64 0, .int .i64 0, .int .i64 0, .int .i64 0, .bool false] 23)) = wB at hK0 hB X1 X2
  have HB := Lib.hid hB
  have HX1 := Lib.hid X1
  have HX2 := Lib.hid X2
  clear hB X1 X2
  refine wp_region_held_drew (S := fun w' => w'.cell? ⟨w.heap.size, 0, none⟩ = some (.int .i64 2) ∧ w'.cell? ⟨w.heap.size, 1, none⟩ = some (.int .i64 0) ∧ w'.cell? ⟨w.heap.size, 2, none⟩ = some (.int .i64 a) ∧ w'.cell? ⟨w.heap.size, 3, none⟩ = some (.int .i64 b) ∧ w'.cell? ⟨w.heap.size, 4, none⟩ = some (.int .i64 c) ∧ w'.cell? ⟨w.heap.size, 5, none⟩ = some (.int .i64 i) ∧ w'.cell? ⟨w.heap.size, 6, none⟩ = some (.bool true)) (by kernel_rfl) ?_ (fun hHeld => ?_)
  · exact (HX1.out.kept hK0.drew).cells
  refine wpAnyH_take (i := 0) (oi := { dst := some 27, op := Op.fieldAddr 23 (Operand.tmp 1) 0, type := 0, pos := "isa.go:40", after := #[], guard := none }) (v := ?_) rfl (by kernel_rfl) (by kernel_rfl) (by kernel_rfl) (fun _ _ _ h => h) (Or.inl ⟨rfl, ?_⟩) hHeld ?_
  rotate_left
  · (intro w hSw; (try dsimp only at hSw); go_simp; try with_reducible rfl)
  try simp only [Act.put, List.setIfInBounds_toArray, List.set_cons_zero, List.set_cons_succ]
  refine wpAnyH_take (i := 1) (oi := { dst := some 28, op := Op.load 3 (Operand.tmp 27), type := 3, pos := "isa.go:40", after := #[eD 0], guard := none }) (v := ?_) rfl (by kernel_rfl) (by kernel_rfl) (by kernel_rfl) (fun _ _ _ h => h) (Or.inl ⟨rfl, ?_⟩) hHeld ?_
  rotate_left
  · (intro w hSw; (try dsimp only at hSw); go_simp; try with_reducible rfl)
  try simp only [Act.put, List.setIfInBounds_toArray, List.set_cons_zero, List.set_cons_succ]
  refine wpAnyH_take (i := 2) (oi := { dst := some 29, op := Op.fieldAddr 23 (Operand.tmp 1) 1, type := 0, pos := "isa.go:40", after := #[], guard := none }) (v := ?_) rfl (by kernel_rfl) (by kernel_rfl) (by kernel_rfl) (fun _ _ _ h => h) (Or.inl ⟨rfl, ?_⟩) hHeld ?_
  rotate_left
  · (intro w hSw; (try dsimp only at hSw); go_simp; try with_reducible rfl)
  try simp only [Act.put, List.setIfInBounds_toArray, List.set_cons_zero, List.set_cons_succ]
  refine wpAnyH_take (i := 3) (oi := { dst := some 30, op := Op.load 3 (Operand.tmp 29), type := 3, pos := "isa.go:40", after := #[eD 2], guard := none }) (v := ?_) rfl (by kernel_rfl) (by kernel_rfl) (by kernel_rfl) (fun _ _ _ h => h) (Or.inl ⟨rfl, ?_⟩) hHeld ?_
  rotate_left
  · (intro w hSw; (try dsimp only at hSw); go_simp; try with_reducible rfl)
  try simp only [Act.put, List.setIfInBounds_toArray, List.set_cons_zero, List.set_cons_succ]
  refine wpAnyH_take (i := 4) (oi := { dst := some 31, op := Op.fieldAddr 23 (Operand.tmp 1) 2, type := 0, pos := "isa.go:40", after := #[], guard := none }) (v := ?_) rfl (by kernel_rfl) (by kernel_rfl) (by kernel_rfl) (fun _ _ _ h => h) (Or.inl ⟨rfl, ?_⟩) hHeld ?_
  rotate_left
  · (intro w hSw; (try dsimp only at hSw); go_simp; try with_reducible rfl)
  try simp only [Act.put, List.setIfInBounds_toArray, List.set_cons_zero, List.set_cons_succ]
  refine wpAnyH_take (i := 5) (oi := { dst := some 32, op := Op.load 3 (Operand.tmp 31), type := 3, pos := "isa.go:40", after := #[eD 4], guard := none }) (v := ?_) rfl (by kernel_rfl) (by kernel_rfl) (by kernel_rfl) (fun _ _ _ h => h) (Or.inl ⟨rfl, ?_⟩) hHeld ?_
  rotate_left
  · (intro w hSw; (try dsimp only at hSw); go_simp; try with_reducible rfl)
  try simp only [Act.put, List.setIfInBounds_toArray, List.set_cons_zero, List.set_cons_succ]
  refine wpAnyH_take (i := 6) (oi := { dst := some 33, op := Op.load 23 (Operand.tmp 1), type := 23, pos := "isa.go:40", after := #[], guard := none }) (v := ?_) rfl (by kernel_rfl) (by kernel_rfl) (by kernel_rfl) (fun _ _ _ h => h) (Or.inl ⟨rfl, ?_⟩) hHeld ?_
  rotate_left
  · (intro w hSw; (try dsimp only at hSw); go_simp; try with_reducible rfl)
  try simp only [Act.put, List.setIfInBounds_toArray, List.set_cons_zero, List.set_cons_succ]
  refine wpAnyH_take (i := 8) (oi := { dst := some 35, op := Op.fieldAddr 23 (Operand.tmp 1) 5, type := 0, pos := "isa.go:40", after := #[], guard := none }) (v := ?_) rfl (by kernel_rfl) (by kernel_rfl) (by kernel_rfl) (fun _ _ _ h => h) (Or.inl ⟨rfl, ?_⟩) hHeld ?_
  rotate_left
  · (intro w hSw; (try dsimp only at hSw); go_simp; try with_reducible rfl)
  try simp only [Act.put, List.setIfInBounds_toArray, List.set_cons_zero, List.set_cons_succ]
  refine wpAnyH_take (i := 9) (oi := { dst := some 36, op := Op.load 3 (Operand.tmp 35), type := 3, pos := "isa.go:40", after := #[eD 8], guard := none }) (v := ?_) rfl (by kernel_rfl) (by kernel_rfl) (by kernel_rfl) (fun _ _ _ h => h) (Or.inl ⟨rfl, ?_⟩) hHeld ?_
  rotate_left
  · (intro w hSw; (try dsimp only at hSw); go_simp; try with_reducible rfl)
  try simp only [Act.put, List.setIfInBounds_toArray, List.set_cons_zero, List.set_cons_succ]
  refine wpAnyH_take (i := 10) (oi := { dst := some 37, op := Op.fieldAddr 23 (Operand.tmp 1) 6, type := 0, pos := "isa.go:40", after := #[], guard := none }) (v := ?_) rfl (by kernel_rfl) (by kernel_rfl) (by kernel_rfl) (fun _ _ _ h => h) (Or.inl ⟨rfl, ?_⟩) hHeld ?_
  rotate_left
  · (intro w hSw; (try dsimp only at hSw); go_simp; try with_reducible rfl)
  try simp only [Act.put, List.setIfInBounds_toArray, List.set_cons_zero, List.set_cons_succ]
  refine wpAnyH_take (i := 11) (oi := { dst := some 38, op := Op.load 4 (Operand.tmp 37), type := 4, pos := "isa.go:40", after := #[eD 10], guard := none }) (v := ?_) rfl (by kernel_rfl) (by kernel_rfl) (by kernel_rfl) (fun _ _ _ h => h) (Or.inl ⟨rfl, ?_⟩) hHeld ?_
  rotate_left
  · (intro w hSw; (try dsimp only at hSw); go_simp; try with_reducible rfl)
  try simp only [Act.put, List.setIfInBounds_toArray, List.set_cons_zero, List.set_cons_succ]
  refine wpAnyH_ready (rs := [7]) (by kernel_rfl) (by simp) ?_
  refine AllReadyH.cons (o := { dst := some 34, op := Op.call { callee := Callee.value (Operand.func 43), args := #[Operand.tmp 33], argTypes := #[23] }, type := 3, pos := "isa.go:40", after := #[eD 6], guard := none }) rfl (fun K hK => ?_) AllReadyH.nil
  go_simp
  go_at_call 43
  refine (namedB_any _ _ _ _ _ _ _ _).mono ?_
  rintro e w5 ⟨rfl, hK5⟩
  replace hK5 := Kept.trans (a := wB) hK0.drew hK5
  clear hHeld
  refine hK.out _ _ ?_ (fun hHeld => ?_)
  · exact (HX1.out.kept hK5).cells
  clear hK K
  try simp only [Act.put, List.setIfInBounds_toArray, List.set_cons_zero, List.set_cons_succ]
  refine wpAnyH_take (i := 12) (oi := { dst := some 39, op := Op.move (Operand.tmp 38), type := 4, pos := "isa.go:40", after := #[eD 11, eC 7], guard := none }) (v := ?_) rfl (by kernel_rfl) (by kernel_rfl) (by kernel_rfl) (fun _ _ _ h => h) (Or.inl ⟨rfl, ?_⟩) hHeld ?_
  rotate_left
  · (intro w hSw; (try dsimp only at hSw); go_simp; try with_reducible rfl)
  try simp only [Act.put, List.setIfInBounds_toArray, List.set_cons_zero, List.set_cons_succ]
  refine wpAnyH_take (i := 13) (oi := { dst := some 40, op := Op.fieldAddr 23 (Operand.tmp 1) 1, type := 0, pos := "isa.go:40", after := #[eG 12], guard := some (12, true) }) (v := ?_) rfl (by kernel_rfl) (by kernel_rfl) (by kernel_rfl) (fun _ _ _ h => h) (Or.inl ⟨rfl, ?_⟩) hHeld ?_
  rotate_left
  · (intro w hSw; (try dsimp only at hSw); go_simp; try with_reducible rfl)
  try simp only [Act.put, List.setIfInBounds_toArray, List.set_cons_zero, List.set_cons_succ]
  refine wpAnyH_take (i := 14) (oi := { dst := some 41, op := Op.load 3 (Operand.tmp 40), type := 3, pos := "isa.go:40", after := #[eD 13, eG 12], guard := some (12, true) }) (v := ?_) rfl (by kernel_rfl) (by kernel_rfl) (by kernel_rfl) (fun _ _ _ h => h) (Or.inl ⟨rfl, ?_⟩) hHeld ?_
  rotate_left
  · (intro w hSw; (try dsimp only at hSw); go_simp; try with_reducible rfl)
  try simp only [Act.put, List.setIfInBounds_toArray, List.set_cons_zero, List.set_cons_succ]
  refine wpAnyH_take (i := 15) (oi := { dst := some 42, op := Op.binOp BinOp.eql 3 (Operand.tmp 41) (Operand.const (Value.int IntKind.i64 0)) 3, type := 4, pos := "isa.go:40", after := #[eD 14, eG 12], guard := some (12, true) }) (v := ?_) rfl (by kernel_rfl) (by kernel_rfl) (by kernel_rfl) (fun _ _ _ h => h) (Or.inl ⟨rfl, ?_⟩) hHeld ?_
  rotate_left
  · (intro w hSw; (try dsimp only at hSw); go_simp; try with_reducible rfl)
  try simp only [Act.put, List.setIfInBounds_toArray, List.set_cons_zero, List.set_cons_succ]
  refine wpAnyH_take (i := 16) (oi := { dst := some 43, op := Op.move (Operand.tmp 42), type := 4, pos := "isa.go:40", after := #[eD 15, eC 12, eG 12], guard := some (12, true) }) (v := ?_) rfl (by kernel_rfl) (by kernel_rfl) (by kernel_rfl) (fun _ _ _ h => h) (Or.inl ⟨rfl, ?_⟩) hHeld ?_
  rotate_left
  · (intro w hSw; (try dsimp only at hSw); go_simp; try with_reducible rfl)
  try simp only [Act.put, List.setIfInBounds_toArray, List.set_cons_zero, List.set_cons_succ]
  refine wpAnyH_take (i := 17) (oi := { dst := some 44, op := Op.fieldAddr 23 (Operand.tmp 1) 1, type := 0, pos := "isa.go:40", after := #[eG 16], guard := some (16, false) }) (v := undef) rfl (by kernel_rfl) (by kernel_rfl) (by kernel_rfl) (fun _ _ _ h => h) (Or.inr ⟨rfl, rfl⟩) hHeld ?_
  try simp only [Act.put, List.setIfInBounds_toArray, List.set_cons_zero, List.set_cons_succ]
  refine wpAnyH_take (i := 18) (oi := { dst := some 45, op := Op.load 3 (Operand.tmp 44), type := 3, pos := "isa.go:40", after := #[eD 17, eG 16], guard := some (16, false) }) (v := undef) rfl (by kernel_rfl) (by kernel_rfl) (by kernel_rfl) (fun _ _ _ h => h) (Or.inr ⟨rfl, rfl⟩) hHeld ?_
  try simp only [Act.put, List.setIfInBounds_toArray, List.set_cons_zero, List.set_cons_succ]
  refine wpAnyH_take (i := 19) (oi := { dst := some 46, op := Op.call { callee := Callee.value (Operand.func 44), args := #[Operand.tmp 45], argTypes := #[3] }, type := 4, pos := "isa.go:40", after := #[eD 18, eC 16, eG 16], guard := some (16, false) }) (v := undef) rfl (by kernel_rfl) (by kernel_rfl) (by kernel_rfl) (fun _ _ _ h => h) (Or.inr ⟨rfl, rfl⟩) hHeld ?_
  try simp only [Act.put, List.setIfInBounds_toArray, List.set_cons_zero, List.set_cons_succ]
  refine wpAnyH_take (i := 20) (oi := { dst := some 47, op := Op.pick (Operand.tmp 43) (Operand.const (Value.bool true)) (Operand.tmp 46), type := 4, pos := "isa.go:40", after := #[eD 16, eD 19, eG 12], guard := some (12, true) }) (v := ?_) rfl (by kernel_rfl) (by kernel_rfl) (by kernel_rfl) (fun _ _ _ h => h) (Or.inl ⟨rfl, ?_⟩) hHeld ?_
  rotate_left
  · (intro w hSw; (try dsimp only at hSw); go_simp; try with_reducible rfl)
  try simp only [Act.put, List.setIfInBounds_toArray, List.set_cons_zero, List.set_cons_succ]
  refine wpAnyH_take (i := 21) (oi := { dst := some 48, op := Op.pick (Operand.tmp 39) (Operand.tmp 47) (Operand.const (Value.bool false)), type := 4, pos := "isa.go:40", after := #[eD 12, eD 20], guard := none }) (v := ?_) rfl (by kernel_rfl) (by kernel_rfl) (by kernel_rfl) (fun _ _ _ h => h) (Or.inl ⟨rfl, ?_⟩) hHeld ?_
  rotate_left
  · (intro w hSw; (try dsimp only at hSw); go_simp; try with_reducible rfl)
  try simp only [Act.put, List.setIfInBounds_toArray, List.set_cons_zero, List.set_cons_succ]
  refine wpAnyH_take (i := 22) (oi := { dst := some 49, op := Op.build 23 #[(0, Operand.tmp 28), (1, Operand.tmp 30), (2, Operand.tmp 32), (3, Operand.tmp 34), (5, Operand.tmp 36), (6, Operand.tmp 48)], type := 23, pos := "isa.go:40", after := #[eD 1, eD 3, eD 5, eD 7, eD 9, eD 21], guard := none }) (v := ?_) rfl (by kernel_rfl) (by kernel_rfl) (by kernel_rfl) (fun _ _ _ h => h) (Or.inl ⟨rfl, ?_⟩) hHeld ?_
  rotate_left
  · (intro w hSw; (try dsimp only at hSw); go_simp; try with_reducible rfl)
  try simp only [Act.put, List.setIfInBounds_toArray, List.set_cons_zero, List.set_cons_succ]
  refine wpAnyH_ready (rs := [23]) (by kernel_rfl) (by simp) ?_
  refine AllReadyH.cons (o := { dst := none, op := Op.store 23 (Operand.tmp 2) (Operand.tmp 49), type := 0, pos := "isa.go:40", after := #[eD 22, eC 19, eP 0, eP 1, eP 2, eP 3, eP 4, eP 5, eP 6, eP 7, eP 8, eP 9, eP 10, eP 11, eP 12, eP 13, eP 14, eP 15, eP 16, eP 17, eP 18, eP 19, eP 20, eP 21, eP 22], guard := none }) rfl (fun K hK => ?_) AllReadyH.nil
  obtain ⟨c0, c1, c2, c3, c4, c5, c6⟩ := (HX2.out.kept hK5).cells
  obtain ⟨f0, f1, f2, f3, f4, f5, f6⟩ := (HX2.out.kept hK5).free
  go_simp
  clear hHeld
  refine hK.out _ _ ?_ (fun hHeld => ?_)
  · exact ((HX1.out.kept hK5).other (by omega)).cells
  clear hK K
  try simp only [Act.put, List.setIfInBounds_toArray, List.set_cons_zero, List.set_cons_succ]
  refine wpAnyH_done (by kernel_rfl) ?_ _
  have R := (HX2.out.kept hK5).stored (k' := 2) (op' := 0) (a' := a) (b' := I.nb 0 b) (c' := 0) (i' := i) (u' := true)
  have RK := (HB.out.trans hK5).store7 (B' := w.heap.size + 1) (by omega) (2) (0) (a) (I.nb 0 b) (0) (i) (true)
  unfold store7 at R RK
  generalize (((((((w5.setCell ⟨w.heap.size + 1, 0, none⟩ (.int .i64 (2))).setCell ⟨w.heap.size + 1, 1, none⟩ (.int .i64 (0))).setCell ⟨w.heap.size + 1, 2, none⟩ (.int .i64 (a))).setCell ⟨w.heap.size + 1, 3, none⟩ (.int .i64 (I.nb 0 b))).setCell ⟨w.heap.size + 1, 4, none⟩ (.int .i64 (0))).setCell ⟨w.heap.size + 1, 5, none⟩ (.int .i64 (i))).setCell ⟨w.heap.size + 1, 6, none⟩ (.bool (true))) = w7 at R RK ⊢
  obtain ⟨r0, r1, r2, r3, r4, r5, r6⟩ := R.cells
  clear R hK5 HB HX1 HX2 hHeld
  have RK := Lib.hid RK
  go_wp2_with fail
  exact bodyPost_ret (v := .agg #[.int .i64 2, .int .i64 0, .int .i64 a, .int .i64 (I.nb 0 b), .int .i64 0, .int .i64 i, .bool true]) (by simp [results, Try.results31, go_sem, *]) rfl ⟨rfl, RK.out⟩
set_option maxHeartbeats 2000000 in
theorem named_2t (op a b c i : Int) (hz : (op == 0) = false) (w : World) :
    Calls Try.prog 31 #[.agg #[.int .i64 2, .int .i64 op, .int .i64 a, .int .i64 b, .int .i64 c, .int .i64 i, .bool true]] w fun e w' => e = .returned (.agg #[.int .i64 2, .int .i64 op, .int .i64 a, .int .i64 (I.nb op b), .int .i64 0, .int .i64 i, .bool (I.carry op)]) ∧ Kept w w' := by
  have hK0 := Kept.refl ((w.alloc (.cells #[.int .i64 2, .int .i64 op, .int .i64 a, .int .i64 b, .int .i64 c, .int .i64 i, .bool true] 23)).alloc (.cells #[.int .i64 0, .int .i64 0, .int .i64 0, .int .i64 0, .int .i64 0, .int .i64 0, .bool false] 23))
  have X1 := (Box.new 2 op a b c i true w).alloc (.cells #[.int .i64 0, .int .i64 0, .int .i64 0, .int .i64 0, .int .i64 0, .int .i64 0, .bool false] 23)
  have X2 := size_alloc1 w (.cells #[.int .i64 2, .int .i64 op, .int .i64 a, .int .i64 b, .int .i64 c, .int .i64 i, .bool true] 23) ▸ Box.new 0 0 0 0 0 0 false (w.alloc (.cells #[.int .i64 2, .int .i64 op, .int .i64 a, .int .i64 b, .int .i64 c, .int .i64 i, .bool true] 23))
  have hB := show Kept w ((w.alloc (.cells #[.int .i64 2, .int .i64 op, .int .i64 a, .int .i64 b, .int .i64 c, .int .i64 i, .bool true] 23)).alloc (.cells #[.int .i64 0, .int .i64 0, .int .i64 0, .int .i64 0, .int .i64 0, .int .i64 0, .bool false] 23)) from ((Kept.refl w).alloc _ _).alloc _ _
  go_enter Try.func31, Try.ntmps31
  go_wp2_with fail
  generalize ((w.alloc (.cells #[.int .i64 2, .int .i64 op, .int .i64 a, .int .i64 b, .int .i64 c, .int .i64 i, .bool true] 23)).alloc (.cells #[.int .i64 0, .int .i64 0, .int .i64 0, .int .i64 0, .int .i64 0, .int .i64 0, .bool false] 23)) = wB at hK0 hB X1 X2
  have HB := Lib.hid hB
  have HX1 := Lib.hid X1
  have HX2 := Lib.hid X2
  clear hB X1 X2
  refine wp_region_held_drew (S := fun w' => w'.cell? ⟨w.heap.size, 0, none⟩ = some (.int .i64 2) ∧ w'.cell? ⟨w.heap.size, 1, none⟩ = some (.int .i64 op) ∧ w'.cell? ⟨w.heap.size, 2, none⟩ = some (.int .i64 a) ∧ w'.cell? ⟨w.heap.size, 3, none⟩ = some (.int .i64 b) ∧ w'.cell? ⟨w.heap.size, 4, none⟩ = some (.int .i64 c) ∧ w'.cell? ⟨w.heap.size, 5, none⟩ = some (.int .i64 i) ∧ w'.cell? ⟨w.heap.size, 6, none⟩ = some (.bool true)) (by kernel_rfl) ?_ (fun hHeld => ?_)
  · exact (HX1.out.kept hK0.drew).cells
  refine wpAnyH_take (i := 0) (oi := { dst := some 27, op := Op.fieldAddr 23 (Operand.tmp 1) 0, type := 0, pos := "isa.go:40", after := #[], guard := none }) (v := ?_) rfl (by kernel_rfl) (by kernel_rfl) (by kernel_rfl) (fun _ _ _ h => h) (Or.inl ⟨rfl, ?_⟩) hHeld ?_
  rotate_left
  · (intro w hSw; (try dsimp only at hSw); go_simp; try with_reducible rfl)
  try simp only [Act.put, List.setIfInBounds_toArray, List.set_cons_zero, List.set_cons_succ]
  refine wpAnyH_take (i := 1) (oi := { dst := some 28, op := Op.load 3 (Operand.tmp 27), type := 3, pos := "isa.go:40", after := #[eD 0], guard := none }) (v := ?_) rfl (by kernel_rfl) (by kernel_rfl) (by kernel_rfl) (fun _ _ _ h => h) (Or.inl ⟨rfl, ?_⟩) hHeld ?_
  rotate_left
  · (intro w hSw; (try dsimp only at hSw); go_simp; try with_reducible rfl)
  try simp only [Act.put, List.setIfInBounds_toArray, List.set_cons_zero, List.set_cons_succ]
  refine wpAnyH_take (i := 2) (oi := { dst := some 29, op := Op.fieldAddr 23 (Operand.tmp 1) 1, type := 0, pos := "isa.go:40", after := #[], guard := none }) (v := ?_) rfl (by kernel_rfl) (by kernel_rfl) (by kernel_rfl) (fun _ _ _ h => h) (Or.inl ⟨rfl, ?_⟩) hHeld ?_
  rotate_left
  · (intro w hSw; (try dsimp only at hSw); go_simp; try with_reducible rfl)
  try simp only [Act.put, List.setIfInBounds_toArray, List.set_cons_zero, List.set_cons_succ]
  refine wpAnyH_take (i := 3) (oi := { dst := some 30, op := Op.load 3 (Operand.tmp 29), type := 3, pos := "isa.go:40", after := #[eD 2], guard := none }) (v := ?_) rfl (by kernel_rfl) (by kernel_rfl) (by kernel_rfl) (fun _ _ _ h => h) (Or.inl ⟨rfl, ?_⟩) hHeld ?_
  rotate_left
  · (intro w hSw; (try dsimp only at hSw); go_simp; try with_reducible rfl)
  try simp only [Act.put, List.setIfInBounds_toArray, List.set_cons_zero, List.set_cons_succ]
  refine wpAnyH_take (i := 4) (oi := { dst := some 31, op := Op.fieldAddr 23 (Operand.tmp 1) 2, type := 0, pos := "isa.go:40", after := #[], guard := none }) (v := ?_) rfl (by kernel_rfl) (by kernel_rfl) (by kernel_rfl) (fun _ _ _ h => h) (Or.inl ⟨rfl, ?_⟩) hHeld ?_
  rotate_left
  · (intro w hSw; (try dsimp only at hSw); go_simp; try with_reducible rfl)
  try simp only [Act.put, List.setIfInBounds_toArray, List.set_cons_zero, List.set_cons_succ]
  refine wpAnyH_take (i := 5) (oi := { dst := some 32, op := Op.load 3 (Operand.tmp 31), type := 3, pos := "isa.go:40", after := #[eD 4], guard := none }) (v := ?_) rfl (by kernel_rfl) (by kernel_rfl) (by kernel_rfl) (fun _ _ _ h => h) (Or.inl ⟨rfl, ?_⟩) hHeld ?_
  rotate_left
  · (intro w hSw; (try dsimp only at hSw); go_simp; try with_reducible rfl)
  try simp only [Act.put, List.setIfInBounds_toArray, List.set_cons_zero, List.set_cons_succ]
  refine wpAnyH_take (i := 6) (oi := { dst := some 33, op := Op.load 23 (Operand.tmp 1), type := 23, pos := "isa.go:40", after := #[], guard := none }) (v := ?_) rfl (by kernel_rfl) (by kernel_rfl) (by kernel_rfl) (fun _ _ _ h => h) (Or.inl ⟨rfl, ?_⟩) hHeld ?_
  rotate_left
  · (intro w hSw; (try dsimp only at hSw); go_simp; try with_reducible rfl)
  try simp only [Act.put, List.setIfInBounds_toArray, List.set_cons_zero, List.set_cons_succ]
  refine wpAnyH_take (i := 8) (oi := { dst := some 35, op := Op.fieldAddr 23 (Operand.tmp 1) 5, type := 0, pos := "isa.go:40", after := #[], guard := none }) (v := ?_) rfl (by kernel_rfl) (by kernel_rfl) (by kernel_rfl) (fun _ _ _ h => h) (Or.inl ⟨rfl, ?_⟩) hHeld ?_
  rotate_left
  · (intro w hSw; (try dsimp only at hSw); go_simp; try with_reducible rfl)
  try simp only [Act.put, List.setIfInBounds_toArray, List.set_cons_zero, List.set_cons_succ]
  refine wpAnyH_take (i := 9) (oi := { dst := some 36, op := Op.load 3 (Operand.tmp 35), type := 3, pos := "isa.go:40", after := #[eD 8], guard := none }) (v := ?_) rfl (by kernel_rfl) (by kernel_rfl) (by kernel_rfl) (fun _ _ _ h => h) (Or.inl ⟨rfl, ?_⟩) hHeld ?_
  rotate_left
  · (intro w hSw; (try dsimp only at hSw); go_simp; try with_reducible rfl)
  try simp only [Act.put, List.setIfInBounds_toArray, List.set_cons_zero, List.set_cons_succ]
  refine wpAnyH_take (i := 10) (oi := { dst := some 37, op := Op.fieldAddr 23 (Operand.tmp 1) 6, type := 0, pos := "isa.go:40", after := #[], guard := none }) (v := ?_) rfl (by kernel_rfl) (by kernel_rfl) (by kernel_rfl) (fun _ _ _ h => h) (Or.inl ⟨rfl, ?_⟩) hHeld ?_
  rotate_left
  · (intro w hSw; (try dsimp only at hSw); go_simp; try with_reducible rfl)
  try simp only [Act.put, List.setIfInBounds_toArray, List.set_cons_zero, List.set_cons_succ]
  refine wpAnyH_take (i := 11) (oi := { dst := some 38, op := Op.load 4 (Operand.tmp 37), type := 4, pos := "isa.go:40", after := #[eD 10], guard := none }) (v := ?_) rfl (by kernel_rfl) (by kernel_rfl) (by kernel_rfl) (fun _ _ _ h => h) (Or.inl ⟨rfl, ?_⟩) hHeld ?_
  rotate_left
  · (intro w hSw; (try dsimp only at hSw); go_simp; try with_reducible rfl)
  try simp only [Act.put, List.setIfInBounds_toArray, List.set_cons_zero, List.set_cons_succ]
  refine wpAnyH_ready (rs := [7]) (by kernel_rfl) (by simp) ?_
  refine AllReadyH.cons (o := { dst := some 34, op := Op.call { callee := Callee.value (Operand.func 43), args := #[Operand.tmp 33], argTypes := #[23] }, type := 3, pos := "isa.go:40", after := #[eD 6], guard := none }) rfl (fun K hK => ?_) AllReadyH.nil
  go_simp
  go_at_call 43
  refine (namedB_any _ _ _ _ _ _ _ _).mono ?_
  rintro e w5 ⟨rfl, hK5⟩
  replace hK5 := Kept.trans (a := wB) hK0.drew hK5
  clear hHeld
  refine hK.out _ _ ?_ (fun hHeld => ?_)
  · exact (HX1.out.kept hK5).cells
  clear hK K
  try simp only [Act.put, List.setIfInBounds_toArray, List.set_cons_zero, List.set_cons_succ]
  refine wpAnyH_take (i := 12) (oi := { dst := some 39, op := Op.move (Operand.tmp 38), type := 4, pos := "isa.go:40", after := #[eD 11, eC 7], guard := none }) (v := ?_) rfl (by kernel_rfl) (by kernel_rfl) (by kernel_rfl) (fun _ _ _ h => h) (Or.inl ⟨rfl, ?_⟩) hHeld ?_
  rotate_left
  · (intro w hSw; (try dsimp only at hSw); go_simp; try with_reducible rfl)
  try simp only [Act.put, List.setIfInBounds_toArray, List.set_cons_zero, List.set_cons_succ]
  refine wpAnyH_take (i := 13) (oi := { dst := some 40, op := Op.fieldAddr 23 (Operand.tmp 1) 1, type := 0, pos := "isa.go:40", after := #[eG 12], guard := some (12, true) }) (v := ?_) rfl (by kernel_rfl) (by kernel_rfl) (by kernel_rfl) (fun _ _ _ h => h) (Or.inl ⟨rfl, ?_⟩) hHeld ?_
  rotate_left
  · (intro w hSw; (try dsimp only at hSw); go_simp; try with_reducible rfl)
  try simp only [Act.put, List.setIfInBounds_toArray, List.set_cons_zero, List.set_cons_succ]
  refine wpAnyH_take (i := 14) (oi := { dst := some 41, op := Op.load 3 (Operand.tmp 40), type := 3, pos := "isa.go:40", after := #[eD 13, eG 12], guard := some (12, true) }) (v := ?_) rfl (by kernel_rfl) (by kernel_rfl) (by kernel_rfl) (fun _ _ _ h => h) (Or.inl ⟨rfl, ?_⟩) hHeld ?_
  rotate_left
  · (intro w hSw; (try dsimp only at hSw); go_simp; try with_reducible rfl)
  try simp only [Act.put, List.setIfInBounds_toArray, List.set_cons_zero, List.set_cons_succ]
  refine wpAnyH_take (i := 15) (oi := { dst := some 42, op := Op.binOp BinOp.eql 3 (Operand.tmp 41) (Operand.const (Value.int IntKind.i64 0)) 3, type := 4, pos := "isa.go:40", after := #[eD 14, eG 12], guard := some (12, true) }) (v := ?_) rfl (by kernel_rfl) (by kernel_rfl) (by kernel_rfl) (fun _ _ _ h => h) (Or.inl ⟨rfl, ?_⟩) hHeld ?_
  rotate_left
  · (intro w hSw; (try dsimp only at hSw); go_simp; try with_reducible rfl)
  try simp only [Act.put, List.setIfInBounds_toArray, List.set_cons_zero, List.set_cons_succ]
  refine wpAnyH_take (i := 16) (oi := { dst := some 43, op := Op.move (Operand.tmp 42), type := 4, pos := "isa.go:40", after := #[eD 15, eC 12, eG 12], guard := some (12, true) }) (v := ?_) rfl (by kernel_rfl) (by kernel_rfl) (by kernel_rfl) (fun _ _ _ h => h) (Or.inl ⟨rfl, ?_⟩) hHeld ?_
  rotate_left
  · (intro w hSw; (try dsimp only at hSw); go_simp; try with_reducible rfl)
  try simp only [Act.put, List.setIfInBounds_toArray, List.set_cons_zero, List.set_cons_succ]
  refine wpAnyH_take (i := 17) (oi := { dst := some 44, op := Op.fieldAddr 23 (Operand.tmp 1) 1, type := 0, pos := "isa.go:40", after := #[eG 16], guard := some (16, false) }) (v := ?_) rfl (by kernel_rfl) (by kernel_rfl) (by kernel_rfl) (fun _ _ _ h => h) (Or.inl ⟨rfl, ?_⟩) hHeld ?_
  rotate_left
  · (intro w hSw; (try dsimp only at hSw); go_simp; try with_reducible rfl)
  try simp only [Act.put, List.setIfInBounds_toArray, List.set_cons_zero, List.set_cons_succ]
  refine wpAnyH_take (i := 18) (oi := { dst := some 45, op := Op.load 3 (Operand.tmp 44), type := 3, pos := "isa.go:40", after := #[eD 17, eG 16], guard := some (16, false) }) (v := ?_) rfl (by kernel_rfl) (by kernel_rfl) (by kernel_rfl) (fun _ _ _ h => h) (Or.inl ⟨rfl, ?_⟩) hHeld ?_
  rotate_left
  · (intro w hSw; (try dsimp only at hSw); go_simp; try with_reducible rfl)
  try simp only [Act.put, List.setIfInBounds_toArray, List.set_cons_zero, List.set_cons_succ]
  refine wpAnyH_ready (rs := [19]) (by kernel_rfl) (by simp) ?_
  refine AllReadyH.cons (o := { dst := some 46, op := Op.call { callee := Callee.value (Operand.func 44), args := #[Operand.tmp 45], argTypes := #[3] }, type := 4, pos := "isa.go:40", after := #[eD 18, eC 16, eG 16], guard := some (16, false) }) rfl (fun K hK => ?_) AllReadyH.nil
  go_simp
  go_at_call 44
  refine (hasCarry_any _ _).mono ?_
  rintro e w6 ⟨rfl, rfl⟩
  clear hHeld
  refine hK.out _ _ ?_ (fun hHeld => ?_)
  · exact (HX1.out.kept hK5).cells
  clear hK K
  try simp only [Act.put, List.setIfInBounds_toArray, List.set_cons_zero, List.set_cons_succ]
  refine wpAnyH_take (i := 20) (oi := { dst := some 47, op := Op.pick (Operand.tmp 43) (Operand.const (Value.bool true)) (Operand.tmp 46), type := 4, pos := "isa.go:40", after := #[eD 16, eD 19, eG 12], guard := some (12, true) }) (v := ?_) rfl (by kernel_rfl) (by kernel_rfl) (by kernel_rfl) (fun _ _ _ h => h) (Or.inl ⟨rfl, ?_⟩) hHeld ?_
  rotate_left
  · (intro w hSw; (try dsimp only at hSw); go_simp; try with_reducible rfl)
  try simp only [Act.put, List.setIfInBounds_toArray, List.set_cons_zero, List.set_cons_succ]
  refine wpAnyH_take (i := 21) (oi := { dst := some 48, op := Op.pick (Operand.tmp 39) (Operand.tmp 47) (Operand.const (Value.bool false)), type := 4, pos := "isa.go:40", after := #[eD 12, eD 20], guard := none }) (v := ?_) rfl (by kernel_rfl) (by kernel_rfl) (by kernel_rfl) (fun _ _ _ h => h) (Or.inl ⟨rfl, ?_⟩) hHeld ?_
  rotate_left
  · (intro w hSw; (try dsimp only at hSw); go_simp; try with_reducible rfl)
  try simp only [Act.put, List.setIfInBounds_toArray, List.set_cons_zero, List.set_cons_succ]
  refine wpAnyH_take (i := 22) (oi := { dst := some 49, op := Op.build 23 #[(0, Operand.tmp 28), (1, Operand.tmp 30), (2, Operand.tmp 32), (3, Operand.tmp 34), (5, Operand.tmp 36), (6, Operand.tmp 48)], type := 23, pos := "isa.go:40", after := #[eD 1, eD 3, eD 5, eD 7, eD 9, eD 21], guard := none }) (v := ?_) rfl (by kernel_rfl) (by kernel_rfl) (by kernel_rfl) (fun _ _ _ h => h) (Or.inl ⟨rfl, ?_⟩) hHeld ?_
  rotate_left
  · (intro w hSw; (try dsimp only at hSw); go_simp; try with_reducible rfl)
  try simp only [Act.put, List.setIfInBounds_toArray, List.set_cons_zero, List.set_cons_succ]
  refine wpAnyH_ready (rs := [23]) (by kernel_rfl) (by simp) ?_
  refine AllReadyH.cons (o := { dst := none, op := Op.store 23 (Operand.tmp 2) (Operand.tmp 49), type := 0, pos := "isa.go:40", after := #[eD 22, eC 19, eP 0, eP 1, eP 2, eP 3, eP 4, eP 5, eP 6, eP 7, eP 8, eP 9, eP 10, eP 11, eP 12, eP 13, eP 14, eP 15, eP 16, eP 17, eP 18, eP 19, eP 20, eP 21, eP 22], guard := none }) rfl (fun K hK => ?_) AllReadyH.nil
  obtain ⟨c0, c1, c2, c3, c4, c5, c6⟩ := (HX2.out.kept hK5).cells
  obtain ⟨f0, f1, f2, f3, f4, f5, f6⟩ := (HX2.out.kept hK5).free
  go_simp
  clear hHeld
  refine hK.out _ _ ?_ (fun hHeld => ?_)
  · exact ((HX1.out.kept hK5).other (by omega)).cells
  clear hK K
  try simp only [Act.put, List.setIfInBounds_toArray, List.set_cons_zero, List.set_cons_succ]
  refine wpAnyH_done (by kernel_rfl) ?_ _
  have R := (HX2.out.kept hK5).stored (k' := 2) (op' := op) (a' := a) (b' := I.nb op b) (c' := 0) (i' := i) (u' := I.carry op)
  have RK := (HB.out.trans hK5).store7 (B' := w.heap.size + 1) (by omega) (2) (op) (a) (I.nb op b) (0) (i) (I.carry op)
  unfold store7 at R RK
  generalize (((((((w5.setCell ⟨w.heap.size + 1, 0, none⟩ (.int .i64 (2))).setCell ⟨w.heap.size + 1, 1, none⟩ (.int .i64 (op))).setCell ⟨w.heap.size + 1, 2, none⟩ (.int .i64 (a))).setCell ⟨w.heap.size + 1, 3, none⟩ (.int .i64 (I.nb op b))).setCell ⟨w.heap.size + 1, 4, none⟩ (.int .i64 (0))).setCell ⟨w.heap.size + 1, 5, none⟩ (.int .i64 (i))).setCell ⟨w.heap.size + 1, 6, none⟩ (.bool (I.carry op))) = w7 at R RK ⊢
  obtain ⟨r0, r1, r2, r3, r4, r5, r6⟩ := R.cells
  clear R hK5 HB HX1 HX2 hHeld
  have RK := Lib.hid RK
  go_wp2_with fail
  exact bodyPost_ret (v := .agg #[.int .i64 2, .int .i64 op, .int .i64 a, .int .i64 (I.nb op b), .int .i64 0, .int .i64 i, .bool (I.carry op)]) (by simp [results, Try.results31, go_sem, *]) rfl ⟨rfl, RK.out⟩
theorem named_3 (op a b c i : Int) (u : Bool) (w : World) :
    Calls Try.prog 31 #[.agg #[.int .i64 3, .int .i64 op, .int .i64 a, .int .i64 b, .int .i64 c, .int .i64 i, .bool u]] w fun e w' => e = .returned (.agg #[.int .i64 3, .int .i64 0, .int .i64 a, .int .i64 0, .int .i64 0, .int .i64 0, .bool false]) ∧ Kept w w' := by
  go_enter Try.func31, Try.ntmps31
  go_wp2
  exact bodyPost_ret (v := .agg #[.int .i64 3, .int .i64 0, .int .i64 a, .int .i64 0, .int .i64 0, .int .i64 0, .bool false]) (by simp [results, Try.results31, go_sem]) rfl ⟨rfl, ((Kept.refl w).alloc _ _).alloc _ _⟩
theorem named_4 (op a b c i : Int) (u : Bool) (w : World) :
    Calls Try.prog 31 #[.agg #[.int .i64 4, .int .i64 op, .int .i64 a, .int .i64 b, .int .i64 c, .int .i64 i, .bool u]] w fun e w' => e = .returned (.agg #[.int .i64 4, .int .i64 0, .int .i64 a, .int .i64 0, .int .i64 0, .int .i64 0, .bool false]) ∧ Kept w w' := by
  go_enter Try.func31, Try.ntmps31
  go_wp2
  exact bodyPost_ret (v := .agg #[.int .i64 4, .int .i64 0, .int .i64 a, .int .i64 0, .int .i64 0, .int .i64 0, .bool false]) (by simp [results, Try.results31, go_sem]) rfl ⟨rfl, ((Kept.refl w).alloc _ _).alloc _ _⟩
theorem named_5 (op a b c i : Int) (u : Bool) (w : World) :
    Calls Try.prog 31 #[.agg #[.int .i64 5, .int .i64 op, .int .i64 a, .int .i64 b, .int .i64 c, .int .i64 i, .bool u]] w fun e w' => e = .returned (.agg #[.int .i64 5, .int .i64 op, .int .i64 a, .int .i64 b, .int .i64 0, .int .i64 i, .bool false]) ∧ Kept w w' := by
  go_enter Try.func31, Try.ntmps31
  go_wp2
  exact bodyPost_ret (v := .agg #[.int .i64 5, .int .i64 op, .int .i64 a, .int .i64 b, .int .i64 0, .int .i64 i, .bool false]) (by simp [results, Try.results31, go_sem]) rfl ⟨rfl, ((Kept.refl w).alloc _ _).alloc _ _⟩
theorem named_6 (op a b c i : Int) (u : Bool) (w : World) :
    Calls Try.prog 31 #[.agg #[.int .i64 6, .int .i64 op, .int .i64 a, .int .i64 b, .int .i64 c, .int .i64 i, .bool u]] w fun e w' => e = .returned (.agg #[.int .i64 6, .int .i64 op, .int .i64 0, .int .i64 0, .int .i64 c, .int .i64 0, .bool u]) ∧ Kept w w' := by
  go_enter Try.func31, Try.ntmps31
  go_wp2
  exact bodyPost_ret (v := .agg #[.int .i64 6, .int .i64 op, .int .i64 0, .int .i64 0, .int .i64 c, .int .i64 0, .bool u]) (by simp [results, Try.results31, go_sem]) rfl ⟨rfl, ((Kept.refl w).alloc _ _).alloc _ _⟩
theorem named_7 (op a b c i : Int) (u : Bool) (w : World) :
    Calls Try.prog 31 #[.agg #[.int .i64 7, .int .i64 op, .int .i64 a, .int .i64 b, .int .i64 c, .int .i64 i, .bool u]] w fun e w' => e = .returned (.agg #[.int .i64 7, .int .i64 op, .int .i64 0, .int .i64 0, .int .i64 0, .int .i64 i, .bool u]) ∧ Kept w w' := by
  go_enter Try.func31, Try.ntmps31
  go_wp2
  exact bodyPost_ret (v := .agg #[.int .i64 7, .int .i64 op, .int .i64 0, .int .i64 0, .int .i64 0, .int .i64 i, .bool u]) (by simp [results, Try.results31, go_sem]) rfl ⟨rfl, ((Kept.refl w).alloc _ _).alloc _ _⟩
theorem named_k (k op a b c i : Int) (u : Bool) (h1 : (k == 1) = false) (h2 : (k == 2) = false) (h3 : (k == 3) = false) (h4 : (k == 4) = false) (h5 : (k == 5) = false) (h6 : (k == 6) = false) (h7 : (k == 7) = false) (w : World) :
    Calls Try.prog 31 #[.agg #[.int .i64 k, .int .i64 op, .int .i64 a, .int .i64 b, .int .i64 c, .int .i64 i, .bool u]] w fun e w' => e = .returned (.agg #[.int .i64 0, .int .i64 0, .int .i64 0, .int .i64 0, .int .i64 0, .int .i64 0, .bool false]) ∧ Kept w w' := by
  go_enter Try.func31, Try.ntmps31
  go_wp2
  exact bodyPost_ret (v := .agg #[.int .i64 0, .int .i64 0, .int .i64 0, .int .i64 0, .int .i64 0, .int .i64 0, .bool false]) (by simp [results, Try.results31, go_sem]) rfl ⟨rfl, ((Kept.refl w).alloc _ _).alloc _ _⟩
theorem named_any (k op a b c i : Int) (u : Bool) (w : World) :
    Calls Try.prog 31 #[.agg #[.int .i64 k, .int .i64 op, .int .i64 a, .int .i64 b, .int .i64 c, .int .i64 i, .bool u]] w fun e w' => e = .returned (.agg #[.int .i64 (I.named ⟨k, op, a, b, c, i, u⟩).k, .int .i64 (I.named ⟨k, op, a, b, c, i, u⟩).op, .int .i64 (I.named ⟨k, op, a, b, c, i, u⟩).a, .int .i64 (I.named ⟨k, op, a, b, c, i, u⟩).b, .int .i64 (I.named ⟨k, op, a, b, c, i, u⟩).c, .int .i64 (I.named ⟨k, op, a, b, c, i, u⟩).i, .bool (I.named ⟨k, op, a, b, c, i, u⟩).u]) ∧ Kept w w' := by
  rcases I.kinds k with rfl | rfl | rfl | rfl | rfl | rfl | rfl | ⟨h1, h2, h3, h4, h5, h6, h7⟩
  · cases u
    · exact named_1f op a b c i w
    · exact named_1t op a b c i w
  · cases u
    · exact named_2f op a b c i w
    · by_cases h0 : op = 0
      · subst h0; exact named_2z a b c i w
      · have hz : (op == 0) = false := by simpa using h0
        have e : (I.named ⟨2, op, a, b, c, i, true⟩).u = I.carry op := by simp [I.named, hz]
        rw [e]
        exact named_2t op a b c i hz w
  · exact named_3 op a b c i u w
  · exact named_4 op a b c i u w
  · exact named_5 op a b c i u w
  · exact named_6 op a b c i u w
  · exact named_7 op a b c i u w
  · have e : I.named ⟨k, op, a, b, c, i, u⟩ = ⟨0, 0, 0, 0, 0, 0, false⟩ := by simp only [beq_eq_false_iff_ne] at *; simp [I.named, *]
    rw [e]
    exact named_k k op a b c i u h1 h2 h3 h4 h5 h6 h7 w
end Go.Proofs.Ytlmddkciamdldaa

/-
  The contract of May.
-/
namespace Go.Proofs.Ytlmddkciamdldaa
open Go.RowKit
set_option linter.unusedVariables false
set_option linter.unusedSimpArgs false
set_option maxRecDepth 100000
theorem I.cmp_ne {k op a b c i k' op' a' b' c' i' : Int} {u u' : Bool} (h : ¬ (k = k' ∧ op = op' ∧ a = a' ∧ b = b' ∧ c = c' ∧ i = i' ∧ u = u')) (w : World) :
    (if k = k' then if op = op' then if a = a' then if b = b' then if c = c' then if i = i' then if u = u' then (Result.ok (Next.value (Value.bool true)) w : Result Next) else Result.ok (Next.value (Value.bool false)) w else Result.ok (Next.value (Value.bool false)) w else Result.ok (Next.value (Value.bool false)) w else Result.ok (Next.value (Value.bool false)) w else Result.ok (Next.value (Value.bool false)) w else Result.ok (Next.value (Value.bool false)) w else Result.ok (Next.value (Value.bool false)) w) = Result.ok (Next.value (Value.bool false)) w := by
  repeat' split
  all_goals first | rfl | (exfalso; exact h ⟨by assumption, by assumption, by assumption, by assumption, by assumption, by assumption, by assumption⟩)
set_option maxHeartbeats 2000000 in
theorem may_0 (k op a b c i : Int) (u : Bool) (w : World)
    (HN : Hid (∀ w, Calls Try.prog 31 #[.agg #[.int .i64 k, .int .i64 op, .int .i64 a, .int .i64 b, .int .i64 c, .int .i64 i, .bool u]] w fun e w' => e = .returned (.agg #[.int .i64 k, .int .i64 op, .int .i64 a, .int .i64 b, .int .i64 c, .int .i64 i, .bool u]) ∧ Kept w w'))
    (HO : Hid (∀ w, Calls Try.prog 32 #[.agg #[.int .i64 k, .int .i64 op, .int .i64 a, .int .i64 b, .int .i64 c, .int .i64 i, .bool u]] w fun e w' => e = .returned (.bool true) ∧ Kept w w'))
    (HA : Hid (∀ w, Calls Try.prog 33 #[.int .i64 a] w fun e w' => e = .returned (.bool true) ∧ w = w'))
    (HRB : Hid (∀ w, Calls Try.prog 33 #[.int .i64 b] w fun e w' => e = .returned (.bool true) ∧ w = w'))
    (HC : Hid (∀ w, Calls Try.prog 33 #[.int .i64 c] w fun e w' => e = .returned (.bool true) ∧ w = w'))
    (HI : Hid (∀ w, Calls Try.prog 34 #[.agg #[.int .i64 k, .int .i64 op, .int .i64 a, .int .i64 b, .int .i64 c, .int .i64 i, .bool u]] w fun e w' => e = .returned (.bool true) ∧ Kept w w')) :
    Calls Try.prog 22 #[.agg #[.int .i64 k, .int .i64 op, .int .i64 a, .int .i64 b, .int .i64 c, .int .i64 i, .bool u]] w fun e w' => e = .returned (.bool true) ∧ Kept w w' := by
  have hK0 := Kept.refl (w.alloc (.cells #[.int .i64 k, .int .i64 op, .int .i64 a, .int .i64 b, .int .i64 c, .int .i64 i, .bool u] 23))
  have X1 := Box.new k op a b c i u w
  have hB := show Kept w (w.alloc (.cells #[.int .i64 k, .int .i64 op, .int .i64 a, .int .i64 b, .int .i64 c, .int .i64 i, .bool u] 23)) from (Kept.refl w).alloc _ _
  go_enter Try.func22, Try.ntmps22
  go_wp2_with fail
  generalize (w.alloc (.cells #[.int .i64 k, .int .i64 op, .int .i64 a, .int .i64 b, .int .i64 c, .int .i64 i, .bool u] 23)) = wB at hK0 hB X1
  have HB := Lib.hid hB
  have HX1 := Lib.hid X1
  clear hB X1
  refine wp_region_held_drew (S := fun w' => w'.cell? ⟨w.heap.size, 0, none⟩ = some (.int .i64 k) ∧ w'.cell? ⟨w.heap.size, 1, none⟩ = some (.int .i64 op) ∧ w'.cell? ⟨w.heap.size, 2, none⟩ = some (.int .i64 a) ∧ w'.cell? ⟨w.heap.size, 3, none⟩ = some (.int .i64 b) ∧ w'.cell? ⟨w.heap.size, 4, none⟩ = some (.int .i64 c) ∧ w'.cell? ⟨w.heap.size, 5, none⟩ = some (.int .i64 i) ∧ w'.cell? ⟨w.heap.size, 6, none⟩ = some (.bool u)) (by kernel_rfl) ?_ (fun hHeld => ?_)
  · exact (HX1.out.kept hK0.drew).cells
  refine wpAnyH_take (i := 0) (oi := { dst := some 3, op := Op.load 23 (Operand.tmp 1), type := 23, pos := "isa.go:31", after := #[], guard := none }) (v := ?_) rfl (by kernel_rfl) (by kernel_rfl) (by kernel_rfl) (fun _ _ _ h => h) (Or.inl ⟨rfl, ?_⟩) hHeld ?_
  rotate_left
  · (intro w hSw; (try dsimp only at hSw); go_simp; try with_reducible rfl)
  try simp only [Act.put, List.setIfInBounds_toArray, List.set_cons_zero, List.set_cons_succ]
  refine wpAnyH_take (i := 1) (oi := { dst := some 4, op := Op.load 23 (Operand.tmp 1), type := 23, pos := "isa.go:31", after := #[], guard := none }) (v := ?_) rfl (by kernel_rfl) (by kernel_rfl) (by kernel_rfl) (fun _ _ _ h => h) (Or.inl ⟨rfl, ?_⟩) hHeld ?_
  rotate_left
  · (intro w hSw; (try dsimp only at hSw); go_simp; try with_reducible rfl)
  try simp only [Act.put, List.setIfInBounds_toArray, List.set_cons_zero, List.set_cons_succ]
  refine wpAnyH_ready (rs := [2]) (by kernel_rfl) (by simp) ?_
  refine AllReadyH.cons (o := { dst := some 5, op := Op.call { callee := Callee.value (Operand.func 31), args := #[Operand.tmp 4], argTypes := #[23] }, type := 23, pos := "isa.go:31", after := #[eD 1], guard := none }) rfl (fun K hK => ?_) AllReadyH.nil
  go_simp
  go_at_call 31
  refine (HN.out _).mono ?_
  rintro e w5 ⟨rfl, hK5⟩
  replace hK5 := Kept.trans hK0.drew hK5
  clear hHeld
  refine hK.out _ _ ?_ (fun hHeld => ?_)
  · exact (HX1.out.kept hK5).cells
  clear hK K
  try simp only [Act.put, List.setIfInBounds_toArray, List.set_cons_zero, List.set_cons_succ]
  refine wpAnyH_take (i := 3) (oi := { dst := some 6, op := Op.binOp BinOp.eql 23 (Operand.tmp 3) (Operand.tmp 5) 23, type := 4, pos := "isa.go:31", after := #[eD 0, eD 2], guard := none }) (v := ?_) rfl (by kernel_rfl) (by kernel_rfl) (by kernel_rfl) (fun _ _ _ h => h) (Or.inl ⟨rfl, ?_⟩) hHeld ?_
  rotate_left
  · (intro w hSw; (try dsimp only at hSw); go_simp; try with_reducible rfl)
  try simp only [Act.put, List.setIfInBounds_toArray, List.set_cons_zero, List.set_cons_succ]
  refine wpAnyH_take (i := 4) (oi := { dst := some 7, op := Op.move (Operand.tmp 6), type := 4, pos := "isa.go:31", after := #[eD 3, eC 2], guard := none }) (v := ?_) rfl (by kernel_rfl) (by kernel_rfl) (by kernel_rfl) (fun _ _ _ h => h) (Or.inl ⟨rfl, ?_⟩) hHeld ?_
  rotate_left
  · (intro w hSw; (try dsimp only at hSw); go_simp; try with_reducible rfl)
  try simp only [Act.put, List.setIfInBounds_toArray, List.set_cons_zero, List.set_cons_succ]
  refine wpAnyH_take (i := 5) (oi := { dst := some 8, op := Op.load 23 (Operand.tmp 1), type := 23, pos := "isa.go:31", after := #[eG 4], guard := some (4, true) }) (v := ?_) rfl (by kernel_rfl) (by kernel_rfl) (by kernel_rfl) (fun _ _ _ h => h) (Or.inl ⟨rfl, ?_⟩) hHeld ?_
  rotate_left
  · (intro w hSw; (try dsimp only at hSw); go_simp; try with_reducible rfl)
  try simp only [Act.put, List.setIfInBounds_toArray, List.set_cons_zero, List.set_cons_succ]
  refine wpAnyH_ready (rs := [6]) (by kernel_rfl) (by simp) ?_
  refine AllReadyH.cons (o := { dst := some 9, op := Op.call { callee := Callee.value (Operand.func 32), args := #[Operand.tmp 8], argTypes := #[23] }, type := 4, pos := "isa.go:31", after := #[eD 5, eC 4, eG 4], guard := some (4, true) }) rfl (fun K hK => ?_) AllReadyH.nil
  go_simp
  go_at_call 32
  refine (HO.out _).mono ?_
  rintro e w6 ⟨rfl, hK6⟩
  replace hK6 := hK5.trans hK6
  clear hK5
  have hK5 := hK6
  clear hK6
  clear hHeld
  refine hK.out _ _ ?_ (fun hHeld => ?_)
  · exact (HX1.out.kept hK5).cells
  clear hK K
  try simp only [Act.put, List.setIfInBounds_toArray, List.set_cons_zero, List.set_cons_succ]
  refine wpAnyH_take (i := 7) (oi := { dst := some 10, op := Op.pick (Operand.tmp 7) (Operand.tmp 9) (Operand.const (Value.bool false)), type := 4, pos := "isa.go:31", after := #[eD 4, eD 6], guard := none }) (v := ?_) rfl (by kernel_rfl) (by kernel_rfl) (by kernel_rfl) (fun _ _ _ h => h) (Or.inl ⟨rfl, ?_⟩) hHeld ?_
  rotate_left
  · (intro w hSw; (try dsimp only at hSw); go_simp; try with_reducible rfl)
  try simp only [Act.put, List.setIfInBounds_toArray, List.set_cons_zero, List.set_cons_succ]
  refine wpAnyH_take (i := 8) (oi := { dst := some 11, op := Op.move (Operand.tmp 10), type := 4, pos := "isa.go:31", after := #[eD 7, eC 6], guard := none }) (v := ?_) rfl (by kernel_rfl) (by kernel_rfl) (by kernel_rfl) (fun _ _ _ h => h) (Or.inl ⟨rfl, ?_⟩) hHeld ?_
  rotate_left
  · (intro w hSw; (try dsimp only at hSw); go_simp; try with_reducible rfl)
  try simp only [Act.put, List.setIfInBounds_toArray, List.set_cons_zero, List.set_cons_succ]
  refine wpAnyH_take (i := 9) (oi := { dst := some 12, op := Op.fieldAddr 23 (Operand.tmp 1) 2, type := 0, pos := "isa.go:31", after := #[eG 8], guard := some (8, true) }) (v := ?_) rfl (by kernel_rfl) (by kernel_rfl) (by kernel_rfl) (fun _ _ _ h => h) (Or.inl ⟨rfl, ?_⟩) hHeld ?_
  rotate_left
  · (intro w hSw; (try dsimp only at hSw); go_simp; try with_reducible rfl)
  try simp only [Act.put, List.setIfInBounds_toArray, List.set_cons_zero, List.set_cons_succ]
  refine wpAnyH_take (i := 10) (oi := { dst := some 13, op := Op.load 3 (Operand.tmp 12), type := 3, pos := "isa.go:31", after := #[eD 9, eG 8], guard := some (8, true) }) (v := ?_) rfl (by kernel_rfl) (by kernel_rfl) (by kernel_rfl) (fun _ _ _ h => h) (Or.inl ⟨rfl, ?_⟩) hHeld ?_
  rotate_left
  · (intro w hSw; (try dsimp only at hSw); go_simp; try with_reducible rfl)
  try simp only [Act.put, List.setIfInBounds_toArray, List.set_cons_zero, List.set_cons_succ]
  refine wpAnyH_ready (rs := [11]) (by kernel_rfl) (by simp) ?_
  refine AllReadyH.cons (o := { dst := some 14, op := Op.call { callee := Callee.value (Operand.func 33), args := #[Operand.tmp 13], argTypes := #[3] }, type := 4, pos := "isa.go:31", after := #[eD 10, eC 8, eG 8], guard := some (8, true) }) rfl (fun K hK => ?_) AllReadyH.nil
  go_simp
  go_at_call 33
  refine (HA.out _).mono ?_
  rintro e w6 ⟨rfl, rfl⟩
  clear hHeld
  refine hK.out _ _ ?_ (fun hHeld => ?_)
  · exact (HX1.out.kept hK5).cells
  clear hK K
  try simp only [Act.put, List.setIfInBounds_toArray, List.set_cons_zero, List.set_cons_succ]
  refine wpAnyH_take (i := 12) (oi := { dst := some 15, op := Op.pick (Operand.tmp 11) (Operand.tmp 14) (Operand.const (Value.bool false)), type := 4, pos := "isa.go:31", after := #[eD 8, eD 11], guard := none }) (v := ?_) rfl (by kernel_rfl) (by kernel_rfl) (by kernel_rfl) (fun _ _ _ h => h) (Or.inl ⟨rfl, ?_⟩) hHeld ?_
  rotate_left
  · (intro w hSw; (try dsimp only at hSw); go_simp; try with_reducible rfl)
  try simp only [Act.put, List.setIfInBounds_toArray, List.set_cons_zero, List.set_cons_succ]
  refine wpAnyH_take (i := 13) (oi := { dst := some 16, op := Op.move (Operand.tmp 15), type := 4, pos := "isa.go:31", after := #[eD 12, eC 11], guard := none }) (v := ?_) rfl (by kernel_rfl) (by kernel_rfl) (by kernel_rfl) (fun _ _ _ h => h) (Or.inl ⟨rfl, ?_⟩) hHeld ?_
  rotate_left
  · (intro w hSw; (try dsimp only at hSw); go_simp; try with_reducible rfl)
  try simp only [Act.put, List.setIfInBounds_toArray, List.set_cons_zero, List.set_cons_succ]
  refine wpAnyH_take (i := 14) (oi := { dst := some 17, op := Op.fieldAddr 23 (Operand.tmp 1) 3, type := 0, pos := "isa.go:31", after := #[eG 13], guard := some (13, true) }) (v := ?_) rfl (by kernel_rfl) (by kernel_rfl) (by kernel_rfl) (fun _ _ _ h => h) (Or.inl ⟨rfl, ?_⟩) hHeld ?_
  rotate_left
  · (intro w hSw; (try dsimp only at hSw); go_simp; try with_reducible rfl)
  try simp only [Act.put, List.setIfInBounds_toArray, List.set_cons_zero, List.set_cons_succ]
  refine wpAnyH_take (i := 15) (oi := { dst := some 18, op := Op.load 3 (Operand.tmp 17), type := 3, pos := "isa.go:31", after := #[eD 14, eG 13], guard := some (13, true) }) (v := ?_) rfl (by kernel_rfl) (by kernel_rfl) (by kernel_rfl) (fun _ _ _ h => h) (Or.inl ⟨rfl, ?_⟩) hHeld ?_
  rotate_left
  · (intro w hSw; (try dsimp only at hSw); go_simp; try with_reducible rfl)
  try simp only [Act.put, List.setIfInBounds_toArray, List.set_cons_zero, List.set_cons_succ]
  refine wpAnyH_ready (rs := [16]) (by kernel_rfl) (by simp) ?_
  refine AllReadyH.cons (o := { dst := some 19, op := Op.call { callee := Callee.value (Operand.func 33), args := #[Operand.tmp 18], argTypes := #[3] }, type := 4, pos := "isa.go:31", after := #[eD 15, eC 13, eG 13], guard := some (13, true) }) rfl (fun K hK => ?_) AllReadyH.nil
  go_simp
  go_at_call 33
  refine (HRB.out _).mono ?_
  rintro e w6 ⟨rfl, rfl⟩
  clear hHeld
  refine hK.out _ _ ?_ (fun hHeld => ?_)
  · exact (HX1.out.kept hK5).cells
  clear hK K
  try simp only [Act.put, List.setIfInBounds_toArray, List.set_cons_zero, List.set_cons_succ]
  refine wpAnyH_take (i := 17) (oi := { dst := some 20, op := Op.pick (Operand.tmp 16) (Operand.tmp 19) (Operand.const (Value.bool false)), type := 4, pos := "isa.go:31", after := #[eD 13, eD 16], guard := none }) (v := ?_) rfl (by kernel_rfl) (by kernel_rfl) (by kernel_rfl) (fun _ _ _ h => h) (Or.inl ⟨rfl, ?_⟩) hHeld ?_
  rotate_left
  · (intro w hSw; (try dsimp only at hSw); go_simp; try with_reducible rfl)
  try simp only [Act.put, List.setIfInBounds_toArray, List.set_cons_zero, List.set_cons_succ]
  refine wpAnyH_take (i := 18) (oi := { dst := some 21, op := Op.move (Operand.tmp 20), type := 4, pos := "isa.go:31", after := #[eD 17, eC 16], guard := none }) (v := ?_) rfl (by kernel_rfl) (by kernel_rfl) (by kernel_rfl) (fun _ _ _ h => h) (Or.inl ⟨rfl, ?_⟩) hHeld ?_
  rotate_left
  · (intro w hSw; (try dsimp only at hSw); go_simp; try with_reducible rfl)
  try simp only [Act.put, List.setIfInBounds_toArray, List.set_cons_zero, List.set_cons_succ]
  refine wpAnyH_take (i := 19) (oi := { dst := some 22, op := Op.fieldAddr 23 (Operand.tmp 1) 4, type := 0, pos := "isa.go:31", after := #[eG 18], guard := some (18, true) }) (v := ?_) rfl (by kernel_rfl) (by kernel_rfl) (by kernel_rfl) (fun _ _ _ h => h) (Or.inl ⟨rfl, ?_⟩) hHeld ?_
  rotate_left
  · (intro w hSw; (try dsimp only at hSw); go_simp; try with_reducible rfl)
  try simp only [Act.put, List.setIfInBounds_toArray, List.set_cons_zero, List.set_cons_succ]
  refine wpAnyH_take (i := 20) (oi := { dst := some 23, op := Op.load 3 (Operand.tmp 22), type := 3, pos := "isa.go:31", after := #[eD 19, eG 18], guard := some (18, true) }) (v := ?_) rfl (by kernel_rfl) (by kernel_rfl) (by kernel_rfl) (fun _ _ _ h => h) (Or.inl ⟨rfl, ?_⟩) hHeld ?_
  rotate_left
  · (intro w hSw; (try dsimp only at hSw); go_simp; try with_reducible rfl)
  try simp only [Act.put, List.setIfInBounds_toArray, List.set_cons_zero, List.set_cons_succ]
  refine wpAnyH_ready (rs := [21]) (by kernel_rfl) (by simp) ?_
  refine AllReadyH.cons (o := { dst := some 24, op := Op.call { callee := Callee.value (Operand.func 33), args := #[Operand.tmp 23], argTypes := #[3] }, type := 4, pos := "isa.go:31", after := #[eD 20, eC 18, eG 18], guard := some (18, true) }) rfl (fun K hK => ?_) AllReadyH.nil
  go_simp
  go_at_call 33
  refine (HC.out _).mono ?_
  rintro e w6 ⟨rfl, rfl⟩
  clear hHeld
  refine hK.out _ _ ?_ (fun hHeld => ?_)
  · exact (HX1.out.kept hK5).cells
  clear hK K
  try simp only [Act.put, List.setIfInBounds_toArray, List.set_cons_zero, List.set_cons_succ]
  refine wpAnyH_take (i := 22) (oi := { dst := some 25, op := Op.pick (Operand.tmp 21) (Operand.tmp 24) (Operand.const (Value.bool false)), type := 4, pos := "isa.go:31", after := #[eD 18, eD 21], guard := none }) (v := ?_) rfl (by kernel_rfl) (by kernel_rfl) (by kernel_rfl) (fun _ _ _ h => h) (Or.inl ⟨rfl, ?_⟩) hHeld ?_
  rotate_left
  · (intro w hSw; (try dsimp only at hSw); go_simp; try with_reducible rfl)
  try simp only [Act.put, List.setIfInBounds_toArray, List.set_cons_zero, List.set_cons_succ]
  refine wpAnyH_take (i := 23) (oi := { dst := some 26, op := Op.move (Operand.tmp 25), type := 4, pos := "isa.go:31", after := #[eD 22, eC 21], guard := none }) (v := ?_) rfl (by kernel_rfl) (by kernel_rfl) (by kernel_rfl) (fun _ _ _ h => h) (Or.inl ⟨rfl, ?_⟩) hHeld ?_
  rotate_left
  · (intro w hSw; (try dsimp only at hSw); go_simp; try with_reducible rfl)
  try simp only [Act.put, List.setIfInBounds_toArray, List.set_cons_zero, List.set_cons_succ]
  refine wpAnyH_take (i := 24) (oi := { dst := some 27, op := Op.load 23 (Operand.tmp 1), type := 23, pos := "isa.go:31", after := #[eG 23], guard := some (23, true) }) (v := ?_) rfl (by kernel_rfl) (by kernel_rfl) (by kernel_rfl) (fun _ _ _ h => h) (Or.inl ⟨rfl, ?_⟩) hHeld ?_
  rotate_left
  · (intro w hSw; (try dsimp only at hSw); go_simp; try with_reducible rfl)
  try simp only [Act.put, List.setIfInBounds_toArray, List.set_cons_zero, List.set_cons_succ]
  refine wpAnyH_ready (rs := [25]) (by kernel_rfl) (by simp) ?_
  refine AllReadyH.cons (o := { dst := some 28, op := Op.call { callee := Callee.value (Operand.func 34), args := #[Operand.tmp 27], argTypes := #[23] }, type := 4, pos := "isa.go:31", after := #[eD 24, eC 23, eG 23], guard := some (23, true) }) rfl (fun K hK => ?_) AllReadyH.nil
  go_simp
  go_at_call 34
  refine (HI.out _).mono ?_
  rintro e w6 ⟨rfl, hK6⟩
  replace hK6 := hK5.trans hK6
  clear hK5
  have hK5 := hK6
  clear hK6
  clear hHeld
  refine hK.out _ _ ?_ (fun hHeld => ?_)
  · exact (HX1.out.kept hK5).cells
  clear hK K
  try simp only [Act.put, List.setIfInBounds_toArray, List.set_cons_zero, List.set_cons_succ]
  refine wpAnyH_take (i := 26) (oi := { dst := some 29, op := Op.pick (Operand.tmp 26) (Operand.tmp 28) (Operand.const (Value.bool false)), type := 4, pos := "isa.go:31", after := #[eD 23, eD 25], guard := none }) (v := ?_) rfl (by kernel_rfl) (by kernel_rfl) (by kernel_rfl) (fun _ _ _ h => h) (Or.inl ⟨rfl, ?_⟩) hHeld ?_
  rotate_left
  · (intro w hSw; (try dsimp only at hSw); go_simp; try with_reducible rfl)
  try simp only [Act.put, List.setIfInBounds_toArray, List.set_cons_zero, List.set_cons_succ]
  refine wpAnyH_take (i := 27) (oi := { dst := some 2, op := Op.assign (Operand.tmp 29), type := 4, pos := "isa.go:31", after := #[eD 26, eC 25, eP 0, eP 1, eP 2, eP 3, eP 4, eP 5, eP 6, eP 7, eP 8, eP 9, eP 10, eP 11, eP 12, eP 13, eP 14, eP 15, eP 16, eP 17, eP 18, eP 19, eP 20, eP 21, eP 22, eP 23, eP 24, eP 25, eP 26], guard := none }) (v := ?_) rfl (by kernel_rfl) (by kernel_rfl) (by kernel_rfl) (fun _ _ _ h => h) (Or.inl ⟨rfl, ?_⟩) hHeld ?_
  rotate_left
  · (intro w hSw; (try dsimp only at hSw); go_simp; try with_reducible rfl)
  try simp only [Act.put, List.setIfInBounds_toArray, List.set_cons_zero, List.set_cons_succ]
  refine wpAnyH_done (by kernel_rfl) ?_ _
  go_wp2_with fail
  go_ret
  exact ⟨rfl, HB.out.trans hK5⟩
set_option maxHeartbeats 2000000 in
theorem may_1 (k op a b c i k' op' a' b' c' i' : Int) (u u' : Bool) (w : World) (hne : ¬ (k = k' ∧ op = op' ∧ a = a' ∧ b = b' ∧ c = c' ∧ i = i' ∧ u = u'))
    (HN : Hid (∀ w, Calls Try.prog 31 #[.agg #[.int .i64 k, .int .i64 op, .int .i64 a, .int .i64 b, .int .i64 c, .int .i64 i, .bool u]] w fun e w' => e = .returned (.agg #[.int .i64 (k'), .int .i64 (op'), .int .i64 (a'), .int .i64 (b'), .int .i64 (c'), .int .i64 (i'), .bool (u')]) ∧ Kept w w'))
 :
    Calls Try.prog 22 #[.agg #[.int .i64 k, .int .i64 op, .int .i64 a, .int .i64 b, .int .i64 c, .int .i64 i, .bool u]] w fun e w' => e = .returned (.bool false) ∧ Kept w w' := by
  have HE := Lib.hid (I.cmp_ne (u := u) hne)
  clear hne
  have hK0 := Kept.refl (w.alloc (.cells #[.int .i64 k, .int .i64 op, .int .i64 a, .int .i64 b, .int .i64 c, .int .i64 i, .bool u] 23))
  have X1 := Box.new k op a b c i u w
  have hB := show Kept w (w.alloc (.cells #[.int .i64 k, .int .i64 op, .int .i64 a, .int .i64 b, .int .i64 c, .int .i64 i, .bool u] 23)) from (Kept.refl w).alloc _ _
  go_enter Try.func22, Try.ntmps22
  go_wp2_with fail
  generalize (w.alloc (.cells #[.int .i64 k, .int .i64 op, .int .i64 a, .int .i64 b, .int .i64 c, .int .i64 i, .bool u] 23)) = wB at hK0 hB X1
  have HB := Lib.hid hB
  have HX1 := Lib.hid X1
  clear hB X1
  refine wp_region_held_drew (S := fun w' => w'.cell? ⟨w.heap.size, 0, none⟩ = some (.int .i64 k) ∧ w'.cell? ⟨w.heap.size, 1, none⟩ = some (.int .i64 op) ∧ w'.cell? ⟨w.heap.size, 2, none⟩ = some (.int .i64 a) ∧ w'.cell? ⟨w.heap.size, 3, none⟩ = some (.int .i64 b) ∧ w'.cell? ⟨w.heap.size, 4, none⟩ = some (.int .i64 c) ∧ w'.cell? ⟨w.heap.size, 5, none⟩ = some (.int .i64 i) ∧ w'.cell? ⟨w.heap.size, 6, none⟩ = some (.bool u)) (by kernel_rfl) ?_ (fun hHeld => ?_)
  · exact (HX1.out.kept hK0.drew).cells
  refine wpAnyH_take (i := 0) (oi := { dst := some 3, op := Op.load 23 (Operand.tmp 1), type := 23, pos := "isa.go:31", after := #[], guard := none }) (v := ?_) rfl (by kernel_rfl) (by kernel_rfl) (by kernel_rfl) (fun _ _ _ h => h) (Or.inl ⟨rfl, ?_⟩) hHeld ?_
  rotate_left
  · (intro w hSw; (try dsimp only at hSw); go_simp; try with_reducible rfl)
  try simp only [Act.put, List.setIfInBounds_toArray, List.set_cons_zero, List.set_cons_succ]
  refine wpAnyH_take (i := 1) (oi := { dst := some 4, op := Op.load 23 (Operand.tmp 1), type := 23, pos := "isa.go:31", after := #[], guard := none }) (v := ?_) rfl (by kernel_rfl) (by kernel_rfl) (by kernel_rfl) (fun _ _ _ h => h) (Or.inl ⟨rfl, ?_⟩) hHeld ?_
  rotate_left
  · (intro w hSw; (try dsimp only at hSw); go_simp; try with_reducible rfl)
  try simp only [Act.put, List.setIfInBounds_toArray, List.set_cons_zero, List.set_cons_succ]
  refine wpAnyH_ready (rs := [2]) (by kernel_rfl) (by simp) ?_
  refine AllReadyH.cons (o := { dst := some 5, op := Op.call { callee := Callee.value (Operand.func 31), args := #[Operand.tmp 4], argTypes := #[23] }, type := 23, pos := "isa.go:31", after := #[eD 1], guard := none }) rfl (fun K hK => ?_) AllReadyH.nil
  go_simp
  go_at_call 31
  refine (HN.out _).mono ?_
  rintro e w5 ⟨rfl, hK5⟩
  replace hK5 := Kept.trans hK0.drew hK5
  clear hHeld
  refine hK.out _ _ ?_ (fun hHeld => ?_)
  · exact (HX1.out.kept hK5).cells
  clear hK K
  try simp only [Act.put, List.setIfInBounds_toArray, List.set_cons_zero, List.set_cons_succ]
  refine wpAnyH_take (i := 3) (oi := { dst := some 6, op := Op.binOp BinOp.eql 23 (Operand.tmp 3) (Operand.tmp 5) 23, type := 4, pos := "isa.go:31", after := #[eD 0, eD 2], guard := none }) (v := ?_) rfl (by kernel_rfl) (by kernel_rfl) (by kernel_rfl) (fun _ _ _ h => h) (Or.inl ⟨rfl, ?_⟩) hHeld ?_
  rotate_left
  · (intro w hSw; (try dsimp only at hSw); go_simp; exact HE.out _)
  try simp only [Act.put, List.setIfInBounds_toArray, List.set_cons_zero, List.set_cons_succ]
  refine wpAnyH_take (i := 4) (oi := { dst := some 7, op := Op.move (Operand.tmp 6), type := 4, pos := "isa.go:31", after := #[eD 3, eC 2], guard := none }) (v := ?_) rfl (by kernel_rfl) (by kernel_rfl) (by kernel_rfl) (fun _ _ _ h => h) (Or.inl ⟨rfl, ?_⟩) hHeld ?_
  rotate_left
  · (intro w hSw; (try dsimp only at hSw); go_simp; try with_reducible rfl)
  try simp only [Act.put, List.setIfInBounds_toArray, List.set_cons_zero, List.set_cons_succ]
  refine wpAnyH_take (i := 5) (oi := { dst := some 8, op := Op.load 23 (Operand.tmp 1), type := 23, pos := "isa.go:31", after := #[eG 4], guard := some (4, true) }) (v := undef) rfl (by kernel_rfl) (by kernel_rfl) (by kernel_rfl) (fun _ _ _ h => h) (Or.inr ⟨rfl, rfl⟩) hHeld ?_
  try simp only [Act.put, List.setIfInBounds_toArray, List.set_cons_zero, List.set_cons_succ]
  refine wpAnyH_take (i := 6) (oi := { dst := some 9, op := Op.call { callee := Callee.value (Operand.func 32), args := #[Operand.tmp 8], argTypes := #[23] }, type := 4, pos := "isa.go:31", after := #[eD 5, eC 4, eG 4], guard := some (4, true) }) (v := undef) rfl (by kernel_rfl) (by kernel_rfl) (by kernel_rfl) (fun _ _ _ h => h) (Or.inr ⟨rfl, rfl⟩) hHeld ?_
  try simp only [Act.put, List.setIfInBounds_toArray, List.set_cons_zero, List.set_cons_succ]
  refine wpAnyH_take (i := 7) (oi := { dst := some 10, op := Op.pick (Operand.tmp 7) (Operand.tmp 9) (Operand.const (Value.bool false)), type := 4, pos := "isa.go:31", after := #[eD 4, eD 6], guard := none }) (v := ?_) rfl (by kernel_rfl) (by kernel_rfl) (by kernel_rfl) (fun _ _ _ h => h) (Or.inl ⟨rfl, ?_⟩) hHeld ?_
  rotate_left
  · (intro w hSw; (try dsimp only at hSw); go_simp; try with_reducible rfl)
  try simp only [Act.put, List.setIfInBounds_toArray, List.set_cons_zero, List.set_cons_succ]
  refine wpAnyH_take (i := 8) (oi := { dst := some 11, op := Op.move (Operand.tmp 10), type := 4, pos := "isa.go:31", after := #[eD 7, eC 6], guard := none }) (v := ?_) rfl (by kernel_rfl) (by kernel_rfl) (by kernel_rfl) (fun _ _ _ h => h) (Or.inl ⟨rfl, ?_⟩) hHeld ?_
  rotate_left
  · (intro w hSw; (try dsimp only at hSw); go_simp; try with_reducible rfl)
  try simp only [Act.put, List.setIfInBounds_toArray, List.set_cons_zero, List.set_cons_succ]
  refine wpAnyH_take (i := 9) (oi := { dst := some 12, op := Op.fieldAddr 23 (Operand.tmp 1) 2, type := 0, pos := "isa.go:31", after := #[eG 8], guard := some (8, true) }) (v := undef) rfl (by kernel_rfl) (by kernel_rfl) (by kernel_rfl) (fun _ _ _ h => h) (Or.inr ⟨rfl, rfl⟩) hHeld ?_
  try simp only [Act.put, List.setIfInBounds_toArray, List.set_cons_zero, List.set_cons_succ]
  refine wpAnyH_take (i := 10) (oi := { dst := some 13, op := Op.load 3 (Operand.tmp 12), type := 3, pos := "isa.go:31", after := #[eD 9, eG 8], guard := some (8, true) }) (v := undef) rfl (by kernel_rfl) (by kernel_rfl) (by kernel_rfl) (fun _ _ _ h => h) (Or.inr ⟨rfl, rfl⟩) hHeld ?_
  try simp only [Act.put, List.setIfInBounds_toArray, List.set_cons_zero, List.set_cons_succ]
  refine wpAnyH_take (i := 11) (oi := { dst := some 14, op := Op.call { callee := Callee.value (Operand.func 33), args := #[Operand.tmp 13], argTypes := #[3] }, type := 4, pos := "isa.go:31", after := #[eD 10, eC 8, eG 8], guard := some (8, true) }) (v := undef) rfl (by kernel_rfl) (by kernel_rfl) (by kernel_rfl) (fun _ _ _ h => h) (Or.inr ⟨rfl, rfl⟩) hHeld ?_
  try simp only [Act.put, List.setIfInBounds_toArray, List.set_cons_zero, List.set_cons_succ]
  refine wpAnyH_take (i := 12) (oi := { dst := some 15, op := Op.pick (Operand.tmp 11) (Operand.tmp 14) (Operand.const (Value.bool false)), type := 4, pos := "isa.go:31", after := #[eD 8, eD 11], guard := none }) (v := ?_) rfl (by kernel_rfl) (by kernel_rfl) (by kernel_rfl) (fun _ _ _ h => h) (Or.inl ⟨rfl, ?_⟩) hHeld ?_
  rotate_left
  · (intro w hSw; (try dsimp only at hSw); go_simp; try with_reducible rfl)
  try simp only [Act.put, List.setIfInBounds_toArray, List.set_cons_zero, List.set_cons_succ]
  refine wpAnyH_take (i := 13) (oi := { dst := some 16, op := Op.move (Operand.tmp 15), type := 4, pos := "isa.go:31", after := #[eD 12, eC 11], guard := none }) (v := ?_) rfl (by kernel_rfl) (by kernel_rfl) (by kernel_rfl) (fun _ _ _ h => h) (Or.inl ⟨rfl, ?_⟩) hHeld ?_
  rotate_left
  · (intro w hSw; (try dsimp only at hSw); go_simp; try with_reducible rfl)
  try simp only [Act.put, List.setIfInBounds_toArray, List.set_cons_zero, List.set_cons_succ]
  refine wpAnyH_take (i := 14) (oi := { dst := some 17, op := Op.fieldAddr 23 (Operand.tmp 1) 3, type := 0, pos := "isa.go:31", after := #[eG 13], guard := some (13, true) }) (v := undef) rfl (by kernel_rfl) (by kernel_rfl) (by kernel_rfl) (fun _ _ _ h => h) (Or.inr ⟨rfl, rfl⟩) hHeld ?_
  try simp only [Act.put, List.setIfInBounds_toArray, List.set_cons_zero, List.set_cons_succ]
  refine wpAnyH_take (i := 15) (oi := { dst := some 18, op := Op.load 3 (Operand.tmp 17), type := 3, pos := "isa.go:31", after := #[eD 14, eG 13], guard := some (13, true) }) (v := undef) rfl (by kernel_rfl) (by kernel_rfl) (by kernel_rfl) (fun _ _ _ h => h) (Or.inr ⟨rfl, rfl⟩) hHeld ?_
  try simp only [Act.put, List.setIfInBounds_toArray, List.set_cons_zero, List.set_cons_succ]
  refine wpAnyH_take (i := 16) (oi := { dst := some 19, op := Op.call { callee := Callee.value (Operand.func 33), args := #[Operand.tmp 18], argTypes := #[3] }, type := 4, pos := "isa.go:31", after := #[eD 15, eC 13, eG 13], guard := some (13, true) }) (v := undef) rfl (by kernel_rfl) (by kernel_rfl) (by kernel_rfl) (fun _ _ _ h => h) (Or.inr ⟨rfl, rfl⟩) hHeld ?_
  try simp only [Act.put, List.setIfInBounds_toArray, List.set_cons_zero, List.set_cons_succ]
  refine wpAnyH_take (i := 17) (oi := { dst := some 20, op := Op.pick (Operand.tmp 16) (Operand.tmp 19) (Operand.const (Value.bool false)), type := 4, pos := "isa.go:31", after := #[eD 13, eD 16], guard := none }) (v := ?_) rfl (by kernel_rfl) (by kernel_rfl) (by kernel_rfl) (fun _ _ _ h => h) (Or.inl ⟨rfl, ?_⟩) hHeld ?_
  rotate_left
  · (intro w hSw; (try dsimp only at hSw); go_simp; try with_reducible rfl)
  try simp only [Act.put, List.setIfInBounds_toArray, List.set_cons_zero, List.set_cons_succ]
  refine wpAnyH_take (i := 18) (oi := { dst := some 21, op := Op.move (Operand.tmp 20), type := 4, pos := "isa.go:31", after := #[eD 17, eC 16], guard := none }) (v := ?_) rfl (by kernel_rfl) (by kernel_rfl) (by kernel_rfl) (fun _ _ _ h => h) (Or.inl ⟨rfl, ?_⟩) hHeld ?_
  rotate_left
  · (intro w hSw; (try dsimp only at hSw); go_simp; try with_reducible rfl)
  try simp only [Act.put, List.setIfInBounds_toArray, List.set_cons_zero, List.set_cons_succ]
  refine wpAnyH_take (i := 19) (oi := { dst := some 22, op := Op.fieldAddr 23 (Operand.tmp 1) 4, type := 0, pos := "isa.go:31", after := #[eG 18], guard := some (18, true) }) (v := undef) rfl (by kernel_rfl) (by kernel_rfl) (by kernel_rfl) (fun _ _ _ h => h) (Or.inr ⟨rfl, rfl⟩) hHeld ?_
  try simp only [Act.put, List.setIfInBounds_toArray, List.set_cons_zero, List.set_cons_succ]
  refine wpAnyH_take (i := 20) (oi := { dst := some 23, op := Op.load 3 (Operand.tmp 22), type := 3, pos := "isa.go:31", after := #[eD 19, eG 18], guard := some (18, true) }) (v := undef) rfl (by kernel_rfl) (by kernel_rfl) (by kernel_rfl) (fun _ _ _ h => h) (Or.inr ⟨rfl, rfl⟩) hHeld ?_
  try simp only [Act.put, List.setIfInBounds_toArray, List.set_cons_zero, List.set_cons_succ]
  refine wpAnyH_take (i := 21) (oi := { dst := some 24, op := Op.call { callee := Callee.value (Operand.func 33), args := #[Operand.tmp 23], argTypes := #[3] }, type := 4, pos := "isa.go:31", after := #[eD 20, eC 18, eG 18], guard := some (18, true) }) (v := undef) rfl (by kernel_rfl) (by kernel_rfl) (by kernel_rfl) (fun _ _ _ h => h) (Or.inr ⟨rfl, rfl⟩) hHeld ?_
  try simp only [Act.put, List.setIfInBounds_toArray, List.set_cons_zero, List.set_cons_succ]
  refine wpAnyH_take (i := 22) (oi := { dst := some 25, op := Op.pick (Operand.tmp 21) (Operand.tmp 24) (Operand.const (Value.bool false)), type := 4, pos := "isa.go:31", after := #[eD 18, eD 21], guard := none }) (v := ?_) rfl (by kernel_rfl) (by kernel_rfl) (by kernel_rfl) (fun _ _ _ h => h) (Or.inl ⟨rfl, ?_⟩) hHeld ?_
  rotate_left
  · (intro w hSw; (try dsimp only at hSw); go_simp; try with_reducible rfl)
  try simp only [Act.put, List.setIfInBounds_toArray, List.set_cons_zero, List.set_cons_succ]
  refine wpAnyH_take (i := 23) (oi := { dst := some 26, op := Op.move (Operand.tmp 25), type := 4, pos := "isa.go:31", after := #[eD 22, eC 21], guard := none }) (v := ?_) rfl (by kernel_rfl) (by kernel_rfl) (by kernel_rfl) (fun _ _ _ h => h) (Or.inl ⟨rfl, ?_⟩) hHeld ?_
  rotate_left
  · (intro w hSw; (try dsimp only at hSw); go_simp; try with_reducible rfl)
  try simp only [Act.put, List.setIfInBounds_toArray, List.set_cons_zero, List.set_cons_succ]
  refine wpAnyH_take (i := 24) (oi := { dst := some 27, op := Op.load 23 (Operand.tmp 1), type := 23, pos := "isa.go:31", after := #[eG 23], guard := some (23, true) }) (v := undef) rfl (by kernel_rfl) (by kernel_rfl) (by kernel_rfl) (fun _ _ _ h => h) (Or.inr ⟨rfl, rfl⟩) hHeld ?_
  try simp only [Act.put, List.setIfInBounds_toArray, List.set_cons_zero, List.set_cons_succ]
  refine wpAnyH_take (i := 25) (oi := { dst := some 28, op := Op.call { callee := Callee.value (Operand.func 34), args := #[Operand.tmp 27], argTypes := #[23] }, type := 4, pos := "isa.go:31", after := #[eD 24, eC 23, eG 23], guard := some (23, true) }) (v := undef) rfl (by kernel_rfl) (by kernel_rfl) (by kernel_rfl) (fun _ _ _ h => h) (Or.inr ⟨rfl, rfl⟩) hHeld ?_
  try simp only [Act.put, List.setIfInBounds_toArray, List.set_cons_zero, List.set_cons_succ]
  refine wpAnyH_take (i := 26) (oi := { dst := some 29, op := Op.pick (Operand.tmp 26) (Operand.tmp 28) (Operand.const (Value.bool false)), type := 4, pos := "isa.go:31", after := #[eD 23, eD 25], guard := none }) (v := ?_) rfl (by kernel_rfl) (by kernel_rfl) (by kernel_rfl) (fun _ _ _ h => h) (Or.inl ⟨rfl, ?_⟩) hHeld ?_
  rotate_left
  · (intro w hSw; (try dsimp only at hSw); go_simp; try with_reducible rfl)
  try simp only [Act.put, List.setIfInBounds_toArray, List.set_cons_zero, List.set_cons_succ]
  refine wpAnyH_take (i := 27) (oi := { dst := some 2, op := Op.assign (Operand.tmp 29), type := 4, pos := "isa.go:31", after := #[eD 26, eC 25, eP 0, eP 1, eP 2, eP 3, eP 4, eP 5, eP 6, eP 7, eP 8, eP 9, eP 10, eP 11, eP 12, eP 13, eP 14, eP 15, eP 16, eP 17, eP 18, eP 19, eP 20, eP 21, eP 22, eP 23, eP 24, eP 25, eP 26], guard := none }) (v := ?_) rfl (by kernel_rfl) (by kernel_rfl) (by kernel_rfl) (fun _ _ _ h => h) (Or.inl ⟨rfl, ?_⟩) hHeld ?_
  rotate_left
  · (intro w hSw; (try dsimp only at hSw); go_simp; try with_reducible rfl)
  try simp only [Act.put, List.setIfInBounds_toArray, List.set_cons_zero, List.set_cons_succ]
  refine wpAnyH_done (by kernel_rfl) ?_ _
  go_wp2_with fail
  go_ret
  exact ⟨rfl, HB.out.trans hK5⟩
set_option maxHeartbeats 2000000 in
theorem may_2 (k op a b c i : Int) (u : Bool) (w : World)
    (HN : Hid (∀ w, Calls Try.prog 31 #[.agg #[.int .i64 k, .int .i64 op, .int .i64 a, .int .i64 b, .int .i64 c, .int .i64 i, .bool u]] w fun e w' => e = .returned (.agg #[.int .i64 k, .int .i64 op, .int .i64 a, .int .i64 b, .int .i64 c, .int .i64 i, .bool u]) ∧ Kept w w'))
    (HO : Hid (∀ w, Calls Try.prog 32 #[.agg #[.int .i64 k, .int .i64 op, .int .i64 a, .int .i64 b, .int .i64 c, .int .i64 i, .bool u]] w fun e w' => e = .returned (.bool false) ∧ Kept w w')) :
    Calls Try.prog 22 #[.agg #[.int .i64 k, .int .i64 op, .int .i64 a, .int .i64 b, .int .i64 c, .int .i64 i, .bool u]] w fun e w' => e = .returned (.bool false) ∧ Kept w w' := by
  have hK0 := Kept.refl (w.alloc (.cells #[.int .i64 k, .int .i64 op, .int .i64 a, .int .i64 b, .int .i64 c, .int .i64 i, .bool u] 23))
  have X1 := Box.new k op a b c i u w
  have hB := show Kept w (w.alloc (.cells #[.int .i64 k, .int .i64 op, .int .i64 a, .int .i64 b, .int .i64 c, .int .i64 i, .bool u] 23)) from (Kept.refl w).alloc _ _
  go_enter Try.func22, Try.ntmps22
  go_wp2_with fail
  generalize (w.alloc (.cells #[.int .i64 k, .int .i64 op, .int .i64 a, .int .i64 b, .int .i64 c, .int .i64 i, .bool u] 23)) = wB at hK0 hB X1
  have HB := Lib.hid hB
  have HX1 := Lib.hid X1
  clear hB X1
  refine wp_region_held_drew (S := fun w' => w'.cell? ⟨w.heap.size, 0, none⟩ = some (.int .i64 k) ∧ w'.cell? ⟨w.heap.size, 1, none⟩ = some (.int .i64 op) ∧ w'.cell? ⟨w.heap.size, 2, none⟩ = some (.int .i64 a) ∧ w'.cell? ⟨w.heap.size, 3, none⟩ = some (.int .i64 b) ∧ w'.cell? ⟨w.heap.size, 4, none⟩ = some (.int .i64 c) ∧ w'.cell? ⟨w.heap.size, 5, none⟩ = some (.int .i64 i) ∧ w'.cell? ⟨w.heap.size, 6, none⟩ = some (.bool u)) (by kernel_rfl) ?_ (fun hHeld => ?_)
  · exact (HX1.out.kept hK0.drew).cells
  refine wpAnyH_take (i := 0) (oi := { dst := some 3, op := Op.load 23 (Operand.tmp 1), type := 23, pos := "isa.go:31", after := #[], guard := none }) (v := ?_) rfl (by kernel_rfl) (by kernel_rfl) (by kernel_rfl) (fun _ _ _ h => h) (Or.inl ⟨rfl, ?_⟩) hHeld ?_
  rotate_left
  · (intro w hSw; (try dsimp only at hSw); go_simp; try with_reducible rfl)
  try simp only [Act.put, List.setIfInBounds_toArray, List.set_cons_zero, List.set_cons_succ]
  refine wpAnyH_take (i := 1) (oi := { dst := some 4, op := Op.load 23 (Operand.tmp 1), type := 23, pos := "isa.go:31", after := #[], guard := none }) (v := ?_) rfl (by kernel_rfl) (by kernel_rfl) (by kernel_rfl) (fun _ _ _ h => h) (Or.inl ⟨rfl, ?_⟩) hHeld ?_
  rotate_left
  · (intro w hSw; (try dsimp only at hSw); go_simp; try with_reducible rfl)
  try simp only [Act.put, List.setIfInBounds_toArray, List.set_cons_zero, List.set_cons_succ]
  refine wpAnyH_ready (rs := [2]) (by kernel_rfl) (by simp) ?_
  refine AllReadyH.cons (o := { dst := some 5, op := Op.call { callee := Callee.value (Operand.func 31), args := #[Operand.tmp 4], argTypes := #[23] }, type := 23, pos := "isa.go:31", after := #[eD 1], guard := none }) rfl (fun K hK => ?_) AllReadyH.nil
  go_simp
  go_at_call 31
  refine (HN.out _).mono ?_
  rintro e w5 ⟨rfl, hK5⟩
  replace hK5 := Kept.trans hK0.drew hK5
  clear hHeld
  refine hK.out _ _ ?_ (fun hHeld => ?_)
  · exact (HX1.out.kept hK5).cells
  clear hK K
  try simp only [Act.put, List.setIfInBounds_toArray, List.set_cons_zero, List.set_cons_succ]
  refine wpAnyH_take (i := 3) (oi := { dst := some 6, op := Op.binOp BinOp.eql 23 (Operand.tmp 3) (Operand.tmp 5) 23, type := 4, pos := "isa.go:31", after := #[eD 0, eD 2], guard := none }) (v := ?_) rfl (by kernel_rfl) (by kernel_rfl) (by kernel_rfl) (fun _ _ _ h => h) (Or.inl ⟨rfl, ?_⟩) hHeld ?_
  rotate_left
  · (intro w hSw; (try dsimp only at hSw); go_simp; try with_reducible rfl)
  try simp only [Act.put, List.setIfInBounds_toArray, List.set_cons_zero, List.set_cons_succ]
  refine wpAnyH_take (i := 4) (oi := { dst := some 7, op := Op.move (Operand.tmp 6), type := 4, pos := "isa.go:31", after := #[eD 3, eC 2], guard := none }) (v := ?_) rfl (by kernel_rfl) (by kernel_rfl) (by kernel_rfl) (fun _ _ _ h => h) (Or.inl ⟨rfl, ?_⟩) hHeld ?_
  rotate_left
  · (intro w hSw; (try dsimp only at hSw); go_simp; try with_reducible rfl)
  try simp only [Act.put, List.setIfInBounds_toArray, List.set_cons_zero, List.set_cons_succ]
  refine wpAnyH_take (i := 5) (oi := { dst := some 8, op := Op.load 23 (Operand.tmp 1), type := 23, pos := "isa.go:31", after := #[eG 4], guard := some (4, true) }) (v := ?_) rfl (by kernel_rfl) (by kernel_rfl) (by kernel_rfl) (fun _ _ _ h => h) (Or.inl ⟨rfl, ?_⟩) hHeld ?_
  rotate_left
  · (intro w hSw; (try dsimp only at hSw); go_simp; try with_reducible rfl)
  try simp only [Act.put, List.setIfInBounds_toArray, List.set_cons_zero, List.set_cons_succ]
  refine wpAnyH_ready (rs := [6]) (by kernel_rfl) (by simp) ?_
  refine AllReadyH.cons (o := { dst := some 9, op := Op.call { callee := Callee.value (Operand.func 32), args := #[Operand.tmp 8], argTypes := #[23] }, type := 4, pos := "isa.go:31", after := #[eD 5, eC 4, eG 4], guard := some (4, true) }) rfl (fun K hK => ?_) AllReadyH.nil
  go_simp
  go_at_call 32
  refine (HO.out _).mono ?_
  rintro e w6 ⟨rfl, hK6⟩
  replace hK6 := hK5.trans hK6
  clear hK5
  have hK5 := hK6
  clear hK6
  clear hHeld
  refine hK.out _ _ ?_ (fun hHeld => ?_)
  · exact (HX1.out.kept hK5).cells
  clear hK K
  try simp only [Act.put, List.setIfInBounds_toArray, List.set_cons_zero, List.set_cons_succ]
  refine wpAnyH_take (i := 7) (oi := { dst := some 10, op := Op.pick (Operand.tmp 7) (Operand.tmp 9) (Operand.const (Value.bool false)), type := 4, pos := "isa.go:31", after := #[eD 4, eD 6], guard := none }) (v := ?_) rfl (by kernel_rfl) (by kernel_rfl) (by kernel_rfl) (fun _ _ _ h => h) (Or.inl ⟨rfl, ?_⟩) hHeld ?_
  rotate_left
  · (intro w hSw; (try dsimp only at hSw); go_simp; try with_reducible rfl)
  try simp only [Act.put, List.setIfInBounds_toArray, List.set_cons_zero, List.set_cons_succ]
  refine wpAnyH_take (i := 8) (oi := { dst := some 11, op := Op.move (Operand.tmp 10), type := 4, pos := "isa.go:31", after := #[eD 7, eC 6], guard := none }) (v := ?_) rfl (by kernel_rfl) (by kernel_rfl) (by kernel_rfl) (fun _ _ _ h => h) (Or.inl ⟨rfl, ?_⟩) hHeld ?_
  rotate_left
  · (intro w hSw; (try dsimp only at hSw); go_simp; try with_reducible rfl)
  try simp only [Act.put, List.setIfInBounds_toArray, List.set_cons_zero, List.set_cons_succ]
  refine wpAnyH_take (i := 9) (oi := { dst := some 12, op := Op.fieldAddr 23 (Operand.tmp 1) 2, type := 0, pos := "isa.go:31", after := #[eG 8], guard := some (8, true) }) (v := undef) rfl (by kernel_rfl) (by kernel_rfl) (by kernel_rfl) (fun _ _ _ h => h) (Or.inr ⟨rfl, rfl⟩) hHeld ?_
  try simp only [Act.put, List.setIfInBounds_toArray, List.set_cons_zero, List.set_cons_succ]
  refine wpAnyH_take (i := 10) (oi := { dst := some 13, op := Op.load 3 (Operand.tmp 12), type := 3, pos := "isa.go:31", after := #[eD 9, eG 8], guard := some (8, true) }) (v := undef) rfl (by kernel_rfl) (by kernel_rfl) (by kernel_rfl) (fun _ _ _ h => h) (Or.inr ⟨rfl, rfl⟩) hHeld ?_
  try simp only [Act.put, List.setIfInBounds_toArray, List.set_cons_zero, List.set_cons_succ]
  refine wpAnyH_take (i := 11) (oi := { dst := some 14, op := Op.call { callee := Callee.value (Operand.func 33), args := #[Operand.tmp 13], argTypes := #[3] }, type := 4, pos := "isa.go:31", after := #[eD 10, eC 8, eG 8], guard := some (8, true) }) (v := undef) rfl (by kernel_rfl) (by kernel_rfl) (by kernel_rfl) (fun _ _ _ h => h) (Or.inr ⟨rfl, rfl⟩) hHeld ?_
  try simp only [Act.put, List.setIfInBounds_toArray, List.set_cons_zero, List.set_cons_succ]
  refine wpAnyH_take (i := 12) (oi := { dst := some 15, op := Op.pick (Operand.tmp 11) (Operand.tmp 14) (Operand.const (Value.bool false)), type := 4, pos := "isa.go:31", after := #[eD 8, eD 11], guard := none }) (v := ?_) rfl (by kernel_rfl) (by kernel_rfl) (by kernel_rfl) (fun _ _ _ h => h) (Or.inl ⟨rfl, ?_⟩) hHeld ?_
  rotate_left
  · (intro w hSw; (try dsimp only at hSw); go_simp; try with_reducible rfl)
  try simp only [Act.put, List.setIfInBounds_toArray, List.set_cons_zero, List.set_cons_succ]
  refine wpAnyH_take (i := 13) (oi := { dst := some 16, op := Op.move (Operand.tmp 15), type := 4, pos := "isa.go:31", after := #[eD 12, eC 11], guard := none }) (v := ?_) rfl (by kernel_rfl) (by kernel_rfl) (by kernel_rfl) (fun _ _ _ h => h) (Or.inl ⟨rfl, ?_⟩) hHeld ?_
  rotate_left
  · (intro w hSw; (try dsimp only at hSw); go_simp; try with_reducible rfl)
  try simp only [Act.put, List.setIfInBounds_toArray, List.set_cons_zero, List.set_cons_succ]
  refine wpAnyH_take (i := 14) (oi := { dst := some 17, op := Op.fieldAddr 23 (Operand.tmp 1) 3, type := 0, pos := "isa.go:31", after := #[eG 13], guard := some (13, true) }) (v := undef) rfl (by kernel_rfl) (by kernel_rfl) (by kernel_rfl) (fun _ _ _ h => h) (Or.inr ⟨rfl, rfl⟩) hHeld ?_
  try simp only [Act.put, List.setIfInBounds_toArray, List.set_cons_zero, List.set_cons_succ]
  refine wpAnyH_take (i := 15) (oi := { dst := some 18, op := Op.load 3 (Operand.tmp 17), type := 3, pos := "isa.go:31", after := #[eD 14, eG 13], guard := some (13, true) }) (v := undef) rfl (by kernel_rfl) (by kernel_rfl) (by kernel_rfl) (fun _ _ _ h => h) (Or.inr ⟨rfl, rfl⟩) hHeld ?_
  try simp only [Act.put, List.setIfInBounds_toArray, List.set_cons_zero, List.set_cons_succ]
  refine wpAnyH_take (i := 16) (oi := { dst := some 19, op := Op.call { callee := Callee.value (Operand.func 33), args := #[Operand.tmp 18], argTypes := #[3] }, type := 4, pos := "isa.go:31", after := #[eD 15, eC 13, eG 13], guard := some (13, true) }) (v := undef) rfl (by kernel_rfl) (by kernel_rfl) (by kernel_rfl) (fun _ _ _ h => h) (Or.inr ⟨rfl, rfl⟩) hHeld ?_
  try simp only [Act.put, List.setIfInBounds_toArray, List.set_cons_zero, List.set_cons_succ]
  refine wpAnyH_take (i := 17) (oi := { dst := some 20, op := Op.pick (Operand.tmp 16) (Operand.tmp 19) (Operand.const (Value.bool false)), type := 4, pos := "isa.go:31", after := #[eD 13, eD 16], guard := none }) (v := ?_) rfl (by kernel_rfl) (by kernel_rfl) (by kernel_rfl) (fun _ _ _ h => h) (Or.inl ⟨rfl, ?_⟩) hHeld ?_
  rotate_left
  · (intro w hSw; (try dsimp only at hSw); go_simp; try with_reducible rfl)
  try simp only [Act.put, List.setIfInBounds_toArray, List.set_cons_zero, List.set_cons_succ]
  refine wpAnyH_take (i := 18) (oi := { dst := some 21, op := Op.move (Operand.tmp 20), type := 4, pos := "isa.go:31", after := #[eD 17, eC 16], guard := none }) (v := ?_) rfl (by kernel_rfl) (by kernel_rfl) (by kernel_rfl) (fun _ _ _ h => h) (Or.inl ⟨rfl, ?_⟩) hHeld ?_
  rotate_left
  · (intro w hSw; (try dsimp only at hSw); go_simp; try with_reducible rfl)
  try simp only [Act.put, List.setIfInBounds_toArray, List.set_cons_zero, List.set_cons_succ]
  refine wpAnyH_take (i := 19) (oi := { dst := some 22, op := Op.fieldAddr 23 (Operand.tmp 1) 4, type := 0, pos := "isa.go:31", after := #[eG 18], guard := some (18, true) }) (v := undef) rfl (by kernel_rfl) (by kernel_rfl) (by kernel_rfl) (fun _ _ _ h => h) (Or.inr ⟨rfl, rfl⟩) hHeld ?_
  try simp only [Act.put, List.setIfInBounds_toArray, List.set_cons_zero, List.set_cons_succ]
  refine wpAnyH_take (i := 20) (oi := { dst := some 23, op := Op.load 3 (Operand.tmp 22), type := 3, pos := "isa.go:31", after := #[eD 19, eG 18], guard := some (18, true) }) (v := undef) rfl (by kernel_rfl) (by kernel_rfl) (by kernel_rfl) (fun _ _ _ h => h) (Or.inr ⟨rfl, rfl⟩) hHeld ?_
  try simp only [Act.put, List.setIfInBounds_toArray, List.set_cons_zero, List.set_cons_succ]
  refine wpAnyH_take (i := 21) (oi := { dst := some 24, op := Op.call { callee := Callee.value (Operand.func 33), args := #[Operand.tmp 23], argTypes := #[3] }, type := 4, pos := "isa.go:31", after := #[eD 20, eC 18, eG 18], guard := some (18, true) }) (v := undef) rfl (by kernel_rfl) (by kernel_rfl) (by kernel_rfl) (fun _ _ _ h => h) (Or.inr ⟨rfl, rfl⟩) hHeld ?_
  try simp only [Act.put, List.setIfInBounds_toArray, List.set_cons_zero, List.set_cons_succ]
  refine wpAnyH_take (i := 22) (oi := { dst := some 25, op := Op.pick (Operand.tmp 21) (Operand.tmp 24) (Operand.const (Value.bool false)), type := 4, pos := "isa.go:31", after := #[eD 18, eD 21], guard := none }) (v := ?_) rfl (by kernel_rfl) (by kernel_rfl) (by kernel_rfl) (fun _ _ _ h => h) (Or.inl ⟨rfl, ?_⟩) hHeld ?_
  rotate_left
  · (intro w hSw; (try dsimp only at hSw); go_simp; try with_reducible rfl)
  try simp only [Act.put, List.setIfInBounds_toArray, List.set_cons_zero, List.set_cons_succ]
  refine wpAnyH_take (i := 23) (oi := { dst := some 26, op := Op.move (Operand.tmp 25), type := 4, pos := "isa.go:31", after := #[eD 22, eC 21], guard := none }) (v := ?_) rfl (by kernel_rfl) (by kernel_rfl) (by kernel_rfl) (fun _ _ _ h => h) (Or.inl ⟨rfl, ?_⟩) hHeld ?_
  rotate_left
  · (intro w hSw; (try dsimp only at hSw); go_simp; try with_reducible rfl)
  try simp only [Act.put, List.setIfInBounds_toArray, List.set_cons_zero, List.set_cons_succ]
  refine wpAnyH_take (i := 24) (oi := { dst := some 27, op := Op.load 23 (Operand.tmp 1), type := 23, pos := "isa.go:31", after := #[eG 23], guard := some (23, true) }) (v := undef) rfl (by kernel_rfl) (by kernel_rfl) (by kernel_rfl) (fun _ _ _ h => h) (Or.inr ⟨rfl, rfl⟩) hHeld ?_
  try simp only [Act.put, List.setIfInBounds_toArray, List.set_cons_zero, List.set_cons_succ]
  refine wpAnyH_take (i := 25) (oi := { dst := some 28, op := Op.call { callee := Callee.value (Operand.func 34), args := #[Operand.tmp 27], argTypes := #[23] }, type := 4, pos := "isa.go:31", after := #[eD 24, eC 23, eG 23], guard := some (23, true) }) (v := undef) rfl (by kernel_rfl) (by kernel_rfl) (by kernel_rfl) (fun _ _ _ h => h) (Or.inr ⟨rfl, rfl⟩) hHeld ?_
  try simp only [Act.put, List.setIfInBounds_toArray, List.set_cons_zero, List.set_cons_succ]
  refine wpAnyH_take (i := 26) (oi := { dst := some 29, op := Op.pick (Operand.tmp 26) (Operand.tmp 28) (Operand.const (Value.bool false)), type := 4, pos := "isa.go:31", after := #[eD 23, eD 25], guard := none }) (v := ?_) rfl (by kernel_rfl) (by kernel_rfl) (by kernel_rfl) (fun _ _ _ h => h) (Or.inl ⟨rfl, ?_⟩) hHeld ?_
  rotate_left
  · (intro w hSw; (try dsimp only at hSw); go_simp; try with_reducible rfl)
  try simp only [Act.put, List.setIfInBounds_toArray, List.set_cons_zero, List.set_cons_succ]
  refine wpAnyH_take (i := 27) (oi := { dst := some 2, op := Op.assign (Operand.tmp 29), type := 4, pos := "isa.go:31", after := #[eD 26, eC 25, eP 0, eP 1, eP 2, eP 3, eP 4, eP 5, eP 6, eP 7, eP 8, eP 9, eP 10, eP 11, eP 12, eP 13, eP 14, eP 15, eP 16, eP 17, eP 18, eP 19, eP 20, eP 21, eP 22, eP 23, eP 24, eP 25, eP 26], guard := none }) (v := ?_) rfl (by kernel_rfl) (by kernel_rfl) (by kernel_rfl) (fun _ _ _ h => h) (Or.inl ⟨rfl, ?_⟩) hHeld ?_
  rotate_left
  · (intro w hSw; (try dsimp only at hSw); go_simp; try with_reducible rfl)
  try simp only [Act.put, List.setIfInBounds_toArray, List.set_cons_zero, List.set_cons_succ]
  refine wpAnyH_done (by kernel_rfl) ?_ _
  go_wp2_with fail
  go_ret
  exact ⟨rfl, HB.out.trans hK5⟩
set_option maxHeartbeats 2000000 in
theorem may_3 (k op a b c i : Int) (u : Bool) (w : World)
    (HN : Hid (∀ w, Calls Try.prog 31 #[.agg #[.int .i64 k, .int .i64 op, .int .i64 a, .int .i64 b, .int .i64 c, .int .i64 i, .bool u]] w fun e w' => e = .returned (.agg #[.int .i64 k, .int .i64 op, .int .i64 a, .int .i64 b, .int .i64 c, .int .i64 i, .bool u]) ∧ Kept w w'))
    (HO : Hid (∀ w, Calls Try.prog 32 #[.agg #[.int .i64 k, .int .i64 op, .int .i64 a, .int .i64 b, .int .i64 c, .int .i64 i, .bool u]] w fun e w' => e = .returned (.bool true) ∧ Kept w w'))
    (HA : Hid (∀ w, Calls Try.prog 33 #[.int .i64 a] w fun e w' => e = .returned (.bool false) ∧ w = w')) :
    Calls Try.prog 22 #[.agg #[.int .i64 k, .int .i64 op, .int .i64 a, .int .i64 b, .int .i64 c, .int .i64 i, .bool u]] w fun e w' => e = .returned (.bool false) ∧ Kept w w' := by
  have hK0 := Kept.refl (w.alloc (.cells #[.int .i64 k, .int .i64 op, .int .i64 a, .int .i64 b, .int .i64 c, .int .i64 i, .bool u] 23))
  have X1 := Box.new k op a b c i u w
  have hB := show Kept w (w.alloc (.cells #[.int .i64 k, .int .i64 op, .int .i64 a, .int .i64 b, .int .i64 c, .int .i64 i, .bool u] 23)) from (Kept.refl w).alloc _ _
  go_enter Try.func22, Try.ntmps22
  go_wp2_with fail
  generalize (w.alloc (.cells #[.int .i64 k, .int .i64 op, .int .i64 a, .int .i64 b, .int .i64 c, .int .i64 i, .bool u] 23)) = wB at hK0 hB X1
  have HB := Lib.hid hB
  have HX1 := Lib.hid X1
  clear hB X1
  refine wp_region_held_drew (S := fun w' => w'.cell? ⟨w.heap.size, 0, none⟩ = some (.int .i64 k) ∧ w'.cell? ⟨w.heap.size, 1, none⟩ = some (.int .i64 op) ∧ w'.cell? ⟨w.heap.size, 2, none⟩ = some (.int .i64 a) ∧ w'.cell? ⟨w.heap.size, 3, none⟩ = some (.int .i64 b) ∧ w'.cell? ⟨w.heap.size, 4, none⟩ = some (.int .i64 c) ∧ w'.cell? ⟨w.heap.size, 5, none⟩ = some (.int .i64 i) ∧ w'.cell? ⟨w.heap.size, 6, none⟩ = some (.bool u)) (by kernel_rfl) ?_ (fun hHeld => ?_)
  · exact (HX1.out.kept hK0.drew).cells
  refine wpAnyH_take (i := 0) (oi := { dst := some 3, op := Op.load 23 (Operand.tmp 1), type := 23, pos := "isa.go:31", after := #[], guard := none }) (v := ?_) rfl (by kernel_rfl) (by kernel_rfl) (by kernel_rfl) (fun _ _ _ h => h) (Or.inl ⟨rfl, ?_⟩) hHeld ?_
  rotate_left
  · (intro w hSw; (try dsimp only at hSw); go_simp; try with_reducible rfl)
  try simp only [Act.put, List.setIfInBounds_toArray, List.set_cons_zero, List.set_cons_succ]
  refine wpAnyH_take (i := 1) (oi := { dst := some 4, op := Op.load 23 (Operand.tmp 1), type := 23, pos := "isa.go:31", after := #[], guard := none }) (v := ?_) rfl (by kernel_rfl) (by kernel_rfl) (by kernel_rfl) (fun _ _ _ h => h) (Or.inl ⟨rfl, ?_⟩) hHeld ?_
  rotate_left
  · (intro w hSw; (try dsimp only at hSw); go_simp; try with_reducible rfl)
  try simp only [Act.put, List.setIfInBounds_toArray, List.set_cons_zero, List.set_cons_succ]
  refine wpAnyH_ready (rs := [2]) (by kernel_rfl) (by simp) ?_
  refine AllReadyH.cons (o := { dst := some 5, op := Op.call { callee := Callee.value (Operand.func 31), args := #[Operand.tmp 4], argTypes := #[23] }, type := 23, pos := "isa.go:31", after := #[eD 1], guard := none }) rfl (fun K hK => ?_) AllReadyH.nil
  go_simp
  go_at_call 31
  refine (HN.out _).mono ?_
  rintro e w5 ⟨rfl, hK5⟩
  replace hK5 := Kept.trans hK0.drew hK5
  clear hHeld
  refine hK.out _ _ ?_ (fun hHeld => ?_)
  · exact (HX1.out.kept hK5).cells
  clear hK K
  try simp only [Act.put, List.setIfInBounds_toArray, List.set_cons_zero, List.set_cons_succ]
  refine wpAnyH_take (i := 3) (oi := { dst := some 6, op := Op.binOp BinOp.eql 23 (Operand.tmp 3) (Operand.tmp 5) 23, type := 4, pos := "isa.go:31", after := #[eD 0, eD 2], guard := none }) (v := ?_) rfl (by kernel_rfl) (by kernel_rfl) (by kernel_rfl) (fun _ _ _ h => h) (Or.inl ⟨rfl, ?_⟩) hHeld ?_
  rotate_left
  · (intro w hSw; (try dsimp only at hSw); go_simp; try with_reducible rfl)
  try simp only [Act.put, List.setIfInBounds_toArray, List.set_cons_zero, List.set_cons_succ]
  refine wpAnyH_take (i := 4) (oi := { dst := some 7, op := Op.move (Operand.tmp 6), type := 4, pos := "isa.go:31", after := #[eD 3, eC 2], guard := none }) (v := ?_) rfl (by kernel_rfl) (by kernel_rfl) (by kernel_rfl) (fun _ _ _ h => h) (Or.inl ⟨rfl, ?_⟩) hHeld ?_
  rotate_left
  · (intro w hSw; (try dsimp only at hSw); go_simp; try with_reducible rfl)
  try simp only [Act.put, List.setIfInBounds_toArray, List.set_cons_zero, List.set_cons_succ]
  refine wpAnyH_take (i := 5) (oi := { dst := some 8, op := Op.load 23 (Operand.tmp 1), type := 23, pos := "isa.go:31", after := #[eG 4], guard := some (4, true) }) (v := ?_) rfl (by kernel_rfl) (by kernel_rfl) (by kernel_rfl) (fun _ _ _ h => h) (Or.inl ⟨rfl, ?_⟩) hHeld ?_
  rotate_left
  · (intro w hSw; (try dsimp only at hSw); go_simp; try with_reducible rfl)
  try simp only [Act.put, List.setIfInBounds_toArray, List.set_cons_zero, List.set_cons_succ]
  refine wpAnyH_ready (rs := [6]) (by kernel_rfl) (by simp) ?_
  refine AllReadyH.cons (o := { dst := some 9, op := Op.call { callee := Callee.value (Operand.func 32), args := #[Operand.tmp 8], argTypes := #[23] }, type := 4, pos := "isa.go:31", after := #[eD 5, eC 4, eG 4], guard := some (4, true) }) rfl (fun K hK => ?_) AllReadyH.nil
  go_simp
  go_at_call 32
  refine (HO.out _).mono ?_
  rintro e w6 ⟨rfl, hK6⟩
  replace hK6 := hK5.trans hK6
  clear hK5
  have hK5 := hK6
  clear hK6
  clear hHeld
  refine hK.out _ _ ?_ (fun hHeld => ?_)
  · exact (HX1.out.kept hK5).cells
  clear hK K
  try simp only [Act.put, List.setIfInBounds_toArray, List.set_cons_zero, List.set_cons_succ]
  refine wpAnyH_take (i := 7) (oi := { dst := some 10, op := Op.pick (Operand.tmp 7) (Operand.tmp 9) (Operand.const (Value.bool false)), type := 4, pos := "isa.go:31", after := #[eD 4, eD 6], guard := none }) (v := ?_) rfl (by kernel_rfl) (by kernel_rfl) (by kernel_rfl) (fun _ _ _ h => h) (Or.inl ⟨rfl, ?_⟩) hHeld ?_
  rotate_left
  · (intro w hSw; (try dsimp only at hSw); go_simp; try with_reducible rfl)
  try simp only [Act.put, List.setIfInBounds_toArray, List.set_cons_zero, List.set_cons_succ]
  refine wpAnyH_take (i := 8) (oi := { dst := some 11, op := Op.move (Operand.tmp 10), type := 4, pos := "isa.go:31", after := #[eD 7, eC 6], guard := none }) (v := ?_) rfl (by kernel_rfl) (by kernel_rfl) (by kernel_rfl) (fun _ _ _ h => h) (Or.inl ⟨rfl, ?_⟩) hHeld ?_
  rotate_left
  · (intro w hSw; (try dsimp only at hSw); go_simp; try with_reducible rfl)
  try simp only [Act.put, List.setIfInBounds_toArray, List.set_cons_zero, List.set_cons_succ]
  refine wpAnyH_take (i := 9) (oi := { dst := some 12, op := Op.fieldAddr 23 (Operand.tmp 1) 2, type := 0, pos := "isa.go:31", after := #[eG 8], guard := some (8, true) }) (v := ?_) rfl (by kernel_rfl) (by kernel_rfl) (by kernel_rfl) (fun _ _ _ h => h) (Or.inl ⟨rfl, ?_⟩) hHeld ?_
  rotate_left
  · (intro w hSw; (try dsimp only at hSw); go_simp; try with_reducible rfl)
  try simp only [Act.put, List.setIfInBounds_toArray, List.set_cons_zero, List.set_cons_succ]
  refine wpAnyH_take (i := 10) (oi := { dst := some 13, op := Op.load 3 (Operand.tmp 12), type := 3, pos := "isa.go:31", after := #[eD 9, eG 8], guard := some (8, true) }) (v := ?_) rfl (by kernel_rfl) (by kernel_rfl) (by kernel_rfl) (fun _ _ _ h => h) (Or.inl ⟨rfl, ?_⟩) hHeld ?_
  rotate_left
  · (intro w hSw; (try dsimp only at hSw); go_simp; try with_reducible rfl)
  try simp only [Act.put, List.setIfInBounds_toArray, List.set_cons_zero, List.set_cons_succ]
  refine wpAnyH_ready (rs := [11]) (by kernel_rfl) (by simp) ?_
  refine AllReadyH.cons (o := { dst := some 14, op := Op.call { callee := Callee.value (Operand.func 33), args := #[Operand.tmp 13], argTypes := #[3] }, type := 4, pos := "isa.go:31", after := #[eD 10, eC 8, eG 8], guard := some (8, true) }) rfl (fun K hK => ?_) AllReadyH.nil
  go_simp
  go_at_call 33
  refine (HA.out _).mono ?_
  rintro e w6 ⟨rfl, rfl⟩
  clear hHeld
  refine hK.out _ _ ?_ (fun hHeld => ?_)
  · exact (HX1.out.kept hK5).cells
  clear hK K
  try simp only [Act.put, List.setIfInBounds_toArray, List.set_cons_zero, List.set_cons_succ]
  refine wpAnyH_take (i := 12) (oi := { dst := some 15, op := Op.pick (Operand.tmp 11) (Operand.tmp 14) (Operand.const (Value.bool false)), type := 4, pos := "isa.go:31", after := #[eD 8, eD 11], guard := none }) (v := ?_) rfl (by kernel_rfl) (by kernel_rfl) (by kernel_rfl) (fun _ _ _ h => h) (Or.inl ⟨rfl, ?_⟩) hHeld ?_
  rotate_left
  · (intro w hSw; (try dsimp only at hSw); go_simp; try with_reducible rfl)
  try simp only [Act.put, List.setIfInBounds_toArray, List.set_cons_zero, List.set_cons_succ]
  refine wpAnyH_take (i := 13) (oi := { dst := some 16, op := Op.move (Operand.tmp 15), type := 4, pos := "isa.go:31", after := #[eD 12, eC 11], guard := none }) (v := ?_) rfl (by kernel_rfl) (by kernel_rfl) (by kernel_rfl) (fun _ _ _ h => h) (Or.inl ⟨rfl, ?_⟩) hHeld ?_
  rotate_left
  · (intro w hSw; (try dsimp only at hSw); go_simp; try with_reducible rfl)
  try simp only [Act.put, List.setIfInBounds_toArray, List.set_cons_zero, List.set_cons_succ]
  refine wpAnyH_take (i := 14) (oi := { dst := some 17, op := Op.fieldAddr 23 (Operand.tmp 1) 3, type := 0, pos := "isa.go:31", after := #[eG 13], guard := some (13, true) }) (v := undef) rfl (by kernel_rfl) (by kernel_rfl) (by kernel_rfl) (fun _ _ _ h => h) (Or.inr ⟨rfl, rfl⟩) hHeld ?_
  try simp only [Act.put, List.setIfInBounds_toArray, List.set_cons_zero, List.set_cons_succ]
  refine wpAnyH_take (i := 15) (oi := { dst := some 18, op := Op.load 3 (Operand.tmp 17), type := 3, pos := "isa.go:31", after := #[eD 14, eG 13], guard := some (13, true) }) (v := undef) rfl (by kernel_rfl) (by kernel_rfl) (by kernel_rfl) (fun _ _ _ h => h) (Or.inr ⟨rfl, rfl⟩) hHeld ?_
  try simp only [Act.put, List.setIfInBounds_toArray, List.set_cons_zero, List.set_cons_succ]
  refine wpAnyH_take (i := 16) (oi := { dst := some 19, op := Op.call { callee := Callee.value (Operand.func 33), args := #[Operand.tmp 18], argTypes := #[3] }, type := 4, pos := "isa.go:31", after := #[eD 15, eC 13, eG 13], guard := some (13, true) }) (v := undef) rfl (by kernel_rfl) (by kernel_rfl) (by kernel_rfl) (fun _ _ _ h => h) (Or.inr ⟨rfl, rfl⟩) hHeld ?_
  try simp only [Act.put, List.setIfInBounds_toArray, List.set_cons_zero, List.set_cons_succ]
  refine wpAnyH_take (i := 17) (oi := { dst := some 20, op := Op.pick (Operand.tmp 16) (Operand.tmp 19) (Operand.const (Value.bool false)), type := 4, pos := "isa.go:31", after := #[eD 13, eD 16], guard := none }) (v := ?_) rfl (by kernel_rfl) (by kernel_rfl) (by kernel_rfl) (fun _ _ _ h => h) (Or.inl ⟨rfl, ?_⟩) hHeld ?_
  rotate_left
  · (intro w hSw; (try dsimp only at hSw); go_simp; try with_reducible rfl)
  try simp only [Act.put, List.setIfInBounds_toArray, List.set_cons_zero, List.set_cons_succ]
  refine wpAnyH_take (i := 18) (oi := { dst := some 21, op := Op.move (Operand.tmp 20), type := 4, pos := "isa.go:31", after := #[eD 17, eC 16], guard := none }) (v := ?_) rfl (by kernel_rfl) (by kernel_rfl) (by kernel_rfl) (fun _ _ _ h => h) (Or.inl ⟨rfl, ?_⟩) hHeld ?_
  rotate_left
  · (intro w hSw; (try dsimp only at hSw); go_simp; try with_reducible rfl)
  try simp only [Act.put, List.setIfInBounds_toArray, List.set_cons_zero, List.set_cons_succ]
  refine wpAnyH_take (i := 19) (oi := { dst := some 22, op := Op.fieldAddr 23 (Operand.tmp 1) 4, type := 0, pos := "isa.go:31", after := #[eG 18], guard := some (18, true) }) (v := undef) rfl (by kernel_rfl) (by kernel_rfl) (by kernel_rfl) (fun _ _ _ h => h) (Or.inr ⟨rfl, rfl⟩) hHeld ?_
  try simp only [Act.put, List.setIfInBounds_toArray, List.set_cons_zero, List.set_cons_succ]
  refine wpAnyH_take (i := 20) (oi := { dst := some 23, op := Op.load 3 (Operand.tmp 22), type := 3, pos := "isa.go:31", after := #[eD 19, eG 18], guard := some (18, true) }) (v := undef) rfl (by kernel_rfl) (by kernel_rfl) (by kernel_rfl) (fun _ _ _ h => h) (Or.inr ⟨rfl, rfl⟩) hHeld ?_
  try simp only [Act.put, List.setIfInBounds_toArray, List.set_cons_zero, List.set_cons_succ]
  refine wpAnyH_take (i := 21) (oi := { dst := some 24, op := Op.call { callee := Callee.value (Operand.func 33), args := #[Operand.tmp 23], argTypes := #[3] }, type := 4, pos := "isa.go:31", after := #[eD 20, eC 18, eG 18], guard := some (18, true) }) (v := undef) rfl (by kernel_rfl) (by kernel_rfl) (by kernel_rfl) (fun _ _ _ h => h) (Or.inr ⟨rfl, rfl⟩) hHeld ?_
  try simp only [Act.put, List.setIfInBounds_toArray, List.set_cons_zero, List.set_cons_succ]
  refine wpAnyH_take (i := 22) (oi := { dst := some 25, op := Op.pick (Operand.tmp 21) (Operand.tmp 24) (Operand.const (Value.bool false)), type := 4, pos := "isa.go:31", after := #[eD 18, eD 21], guard := none }) (v := ?_) rfl (by kernel_rfl) (by kernel_rfl) (by kernel_rfl) (fun _ _ _ h => h) (Or.inl ⟨rfl, ?_⟩) hHeld ?_
  rotate_left
  · (intro w hSw; (try dsimp only at hSw); go_simp; try with_reducible rfl)
  try simp only [Act.put, List.setIfInBounds_toArray, List.set_cons_zero, List.set_cons_succ]
  refine wpAnyH_take (i := 23) (oi := { dst := some 26, op := Op.move (Operand.tmp 25), type := 4, pos := "isa.go:31", after := #[eD 22, eC 21], guard := none }) (v := ?_) rfl (by kernel_rfl) (by kernel_rfl) (by kernel_rfl) (fun _ _ _ h => h) (Or.inl ⟨rfl, ?_⟩) hHeld ?_
  rotate_left
  · (intro w hSw; (try dsimp only at hSw); go_simp; try with_reducible rfl)
  try simp only [Act.put, List.setIfInBounds_toArray, List.set_cons_zero, List.set_cons_succ]
  refine wpAnyH_take (i := 24) (oi := { dst := some 27, op := Op.load 23 (Operand.tmp 1), type := 23, pos := "isa.go:31", after := #[eG 23], guard := some (23, true) }) (v := undef) rfl (by kernel_rfl) (by kernel_rfl) (by kernel_rfl) (fun _ _ _ h => h) (Or.inr ⟨rfl, rfl⟩) hHeld ?_
  try simp only [Act.put, List.setIfInBounds_toArray, List.set_cons_zero, List.set_cons_succ]
  refine wpAnyH_take (i := 25) (oi := { dst := some 28, op := Op.call { callee := Callee.value (Operand.func 34), args := #[Operand.tmp 27], argTypes := #[23] }, type := 4, pos := "isa.go:31", after := #[eD 24, eC 23, eG 23], guard := some (23, true) }) (v := undef) rfl (by kernel_rfl) (by kernel_rfl) (by kernel_rfl) (fun _ _ _ h => h) (Or.inr ⟨rfl, rfl⟩) hHeld ?_
  try simp only [Act.put, List.setIfInBounds_toArray, List.set_cons_zero, List.set_cons_succ]
  refine wpAnyH_take (i := 26) (oi := { dst := some 29, op := Op.pick (Operand.tmp 26) (Operand.tmp 28) (Operand.const (Value.bool false)), type := 4, pos := "isa.go:31", after := #[eD 23, eD 25], guard := none }) (v := ?_) rfl (by kernel_rfl) (by kernel_rfl) (by kernel_rfl) (fun _ _ _ h => h) (Or.inl ⟨rfl, ?_⟩) hHeld ?_
  rotate_left
  · (intro w hSw; (try dsimp only at hSw); go_simp; try with_reducible rfl)
  try simp only [Act.put, List.setIfInBounds_toArray, List.set_cons_zero, List.set_cons_succ]
  refine wpAnyH_take (i := 27) (oi := { dst := some 2, op := Op.assign (Operand.tmp 29), type := 4, pos := "isa.go:31", after := #[eD 26, eC 25, eP 0, eP 1, eP 2, eP 3, eP 4, eP 5, eP 6, eP 7, eP 8, eP 9, eP 10, eP 11, eP 12, eP 13, eP 14, eP 15, eP 16, eP 17, eP 18, eP 19, eP 20, eP 21, eP 22, eP 23, eP 24, eP 25, eP 26], guard := none }) (v := ?_) rfl (by kernel_rfl) (by kernel_rfl) (by kernel_rfl) (fun _ _ _ h => h) (Or.inl ⟨rfl, ?_⟩) hHeld ?_
  rotate_left
  · (intro w hSw; (try dsimp only at hSw); go_simp; try with_reducible rfl)
  try simp only [Act.put, List.setIfInBounds_toArray, List.set_cons_zero, List.set_cons_succ]
  refine wpAnyH_done (by kernel_rfl) ?_ _
  go_wp2_with fail
  go_ret
  exact ⟨rfl, HB.out.trans hK5⟩
set_option maxHeartbeats 2000000 in
theorem may_4 (k op a b c i : Int) (u : Bool) (w : World)
    (HN : Hid (∀ w, Calls Try.prog 31 #[.agg #[.int .i64 k, .int .i64 op, .int .i64 a, .int .i64 b, .int .i64 c, .int .i64 i, .bool u]] w fun e w' => e = .returned (.agg #[.int .i64 k, .int .i64 op, .int .i64 a, .int .i64 b, .int .i64 c, .int .i64 i, .bool u]) ∧ Kept w w'))
    (HO : Hid (∀ w, Calls Try.prog 32 #[.agg #[.int .i64 k, .int .i64 op, .int .i64 a, .int .i64 b, .int .i64 c, .int .i64 i, .bool u]] w fun e w' => e = .returned (.bool true) ∧ Kept w w'))
    (HA : Hid (∀ w, Calls Try.prog 33 #[.int .i64 a] w fun e w' => e = .returned (.bool true) ∧ w = w'))
    (HRB : Hid (∀ w, Calls Try.prog 33 #[.int .i64 b] w fun e w' => e = .returned (.bool false) ∧ w = w')) :
    Calls Try.prog 22 #[.agg #[.int .i64 k, .int .i64 op, .int .i64 a, .int .i64 b, .int .i64 c, .int .i64 i, .bool u]] w fun e w' => e = .returned (.bool false) ∧ Kept w w' := by
  have hK0 := Kept.refl (w.alloc (.cells #[.int .i64 k, .int .i64 op, .int .i64 a, .int .i64 b, .int .i64 c, .int .i64 i, .bool u] 23))
  have X1 := Box.new k op a b c i u w
  have hB := show Kept w (w.alloc (.cells #[.int .i64 k, .int .i64 op, .int .i64 a, .int .i64 b, .int .i64 c, .int .i64 i, .bool u] 23)) from (Kept.refl w).alloc _ _
  go_enter Try.func22, Try.ntmps22
  go_wp2_with fail
  generalize (w.alloc (.cells #[.int .i64 k, .int .i64 op, .int .i64 a, .int .i64 b, .int .i64 c, .int .i64 i, .bool u] 23)) = wB at hK0 hB X1
  have HB := Lib.hid hB
  have HX1 := Lib.hid X1
  clear hB X1
  refine wp_region_held_drew (S := fun w' => w'.cell? ⟨w.heap.size, 0, none⟩ = some (.int .i64 k) ∧ w'.cell? ⟨w.heap.size, 1, none⟩ = some (.int .i64 op) ∧ w'.cell? ⟨w.heap.size, 2, none⟩ = some (.int .i64 a) ∧ w'.cell? ⟨w.heap.size, 3, none⟩ = some (.int .i64 b) ∧ w'.cell? ⟨w.heap.size, 4, none⟩ = some (.int .i64 c) ∧ w'.cell? ⟨w.heap.size, 5, none⟩ = some (.int .i64 i) ∧ w'.cell? ⟨w.heap.size, 6, none⟩ = some (.bool u)) (by kernel_rfl) ?_ (fun hHeld => ?_)
  · exact (HX1.out.kept hK0.drew).cells
  refine wpAnyH_take (i := 0) (oi := { dst := some 3, op := Op.load 23 (Operand.tmp 1), type := 23, pos := "isa.go:31", after := #[], guard := none }) (v := ?_) rfl (by kernel_rfl) (by kernel_rfl) (by kernel_rfl) (fun _ _ _ h => h) (Or.inl ⟨rfl, ?_⟩) hHeld ?_
  rotate_left
  · (intro w hSw; (try dsimp only at hSw); go_simp; try with_reducible rfl)
  try simp only [Act.put, List.setIfInBounds_toArray, List.set_cons_zero, List.set_cons_succ]
  refine wpAnyH_take (i := 1) (oi := { dst := some 4, op := Op.load 23 (Operand.tmp 1), type := 23, pos := "isa.go:31", after := #[], guard := none }) (v := ?_) rfl (by kernel_rfl) (by kernel_rfl) (by kernel_rfl) (fun _ _ _ h => h) (Or.inl ⟨rfl, ?_⟩) hHeld ?_
  rotate_left
  · (intro w hSw; (try dsimp only at hSw); go_simp; try with_reducible rfl)
  try simp only [Act.put, List.setIfInBounds_toArray, List.set_cons_zero, List.set_cons_succ]
  refine wpAnyH_ready (rs := [2]) (by kernel_rfl) (by simp) ?_
  refine AllReadyH.cons (o := { dst := some 5, op := Op.call { callee := Callee.value (Operand.func 31), args := #[Operand.tmp 4], argTypes := #[23] }, type := 23, pos := "isa.go:31", after := #[eD 1], guard := none }) rfl (fun K hK => ?_) AllReadyH.nil
  go_simp
  go_at_call 31
  refine (HN.out _).mono ?_
  rintro e w5 ⟨rfl, hK5⟩
  replace hK5 := Kept.trans hK0.drew hK5
  clear hHeld
  refine hK.out _ _ ?_ (fun hHeld => ?_)
  · exact (HX1.out.kept hK5).cells
  clear hK K
  try simp only [Act.put, List.setIfInBounds_toArray, List.set_cons_zero, List.set_cons_succ]
  refine wpAnyH_take (i := 3) (oi := { dst := some 6, op := Op.binOp BinOp.eql 23 (Operand.tmp 3) (Operand.tmp 5) 23, type := 4, pos := "isa.go:31", after := #[eD 0, eD 2], guard := none }) (v := ?_) rfl (by kernel_rfl) (by kernel_rfl) (by kernel_rfl) (fun _ _ _ h => h) (Or.inl ⟨rfl, ?_⟩) hHeld ?_
  rotate_left
  · (intro w hSw; (try dsimp only at hSw); go_simp; try with_reducible rfl)
  try simp only [Act.put, List.setIfInBounds_toArray, List.set_cons_zero, List.set_cons_succ]
  refine wpAnyH_take (i := 4) (oi := { dst := some 7, op := Op.move (Operand.tmp 6), type := 4, pos := "isa.go:31", after := #[eD 3, eC 2], guard := none }) (v := ?_) rfl (by kernel_rfl) (by kernel_rfl) (by kernel_rfl) (fun _ _ _ h => h) (Or.inl ⟨rfl, ?_⟩) hHeld ?_
  rotate_left
  · (intro w hSw; (try dsimp only at hSw); go_simp; try with_reducible rfl)
  try simp only [Act.put, List.setIfInBounds_toArray, List.set_cons_zero, List.set_cons_succ]
  refine wpAnyH_take (i := 5) (oi := { dst := some 8, op := Op.load 23 (Operand.tmp 1), type := 23, pos := "isa.go:31", after := #[eG 4], guard := some (4, true) }) (v := ?_) rfl (by kernel_rfl) (by kernel_rfl) (by kernel_rfl) (fun _ _ _ h => h) (Or.inl ⟨rfl, ?_⟩) hHeld ?_
  rotate_left
  · (intro w hSw; (try dsimp only at hSw); go_simp; try with_reducible rfl)
  try simp only [Act.put, List.setIfInBounds_toArray, List.set_cons_zero, List.set_cons_succ]
  refine wpAnyH_ready (rs := [6]) (by kernel_rfl) (by simp) ?_
  refine AllReadyH.cons (o := { dst := some 9, op := Op.call { callee := Callee.value (Operand.func 32), args := #[Operand.tmp 8], argTypes := #[23] }, type := 4, pos := "isa.go:31", after := #[eD 5, eC 4, eG 4], guard := some (4, true) }) rfl (fun K hK => ?_) AllReadyH.nil
  go_simp
  go_at_call 32
  refine (HO.out _).mono ?_
  rintro e w6 ⟨rfl, hK6⟩
  replace hK6 := hK5.trans hK6
  clear hK5
  have hK5 := hK6
  clear hK6
  clear hHeld
  refine hK.out _ _ ?_ (fun hHeld => ?_)
  · exact (HX1.out.kept hK5).cells
  clear hK K
  try simp only [Act.put, List.setIfInBounds_toArray, List.set_cons_zero, List.set_cons_succ]
  refine wpAnyH_take (i := 7) (oi := { dst := some 10, op := Op.pick (Operand.tmp 7) (Operand.tmp 9) (Operand.const (Value.bool false)), type := 4, pos := "isa.go:31", after := #[eD 4, eD 6], guard := none }) (v := ?_) rfl (by kernel_rfl) (by kernel_rfl) (by kernel_rfl) (fun _ _ _ h => h) (Or.inl ⟨rfl, ?_⟩) hHeld ?_
  rotate_left
  · (intro w hSw; (try dsimp only at hSw); go_simp; try with_reducible rfl)
  try simp only [Act.put, List.setIfInBounds_toArray, List.set_cons_zero, List.set_cons_succ]
  refine wpAnyH_take (i := 8) (oi := { dst := some 11, op := Op.move (Operand.tmp 10), type := 4, pos := "isa.go:31", after := #[eD 7, eC 6], guard := none }) (v := ?_) rfl (by kernel_rfl) (by kernel_rfl) (by kernel_rfl) (fun _ _ _ h => h) (Or.inl ⟨rfl, ?_⟩) hHeld ?_
  rotate_left
  · (intro w hSw; (try dsimp only at hSw); go_simp; try with_reducible rfl)
  try simp only [Act.put, List.setIfInBounds_toArray, List.set_cons_zero, List.set_cons_succ]
  refine wpAnyH_take (i := 9) (oi := { dst := some 12, op := Op.fieldAddr 23 (Operand.tmp 1) 2, type := 0, pos := "isa.go:31", after := #[eG 8], guard := some (8, true) }) (v := ?_) rfl (by kernel_rfl) (by kernel_rfl) (by kernel_rfl) (fun _ _ _ h => h) (Or.inl ⟨rfl, ?_⟩) hHeld ?_
  rotate_left
  · (intro w hSw; (try dsimp only at hSw); go_simp; try with_reducible rfl)
  try simp only [Act.put, List.setIfInBounds_toArray, List.set_cons_zero, List.set_cons_succ]
  refine wpAnyH_take (i := 10) (oi := { dst := some 13, op := Op.load 3 (Operand.tmp 12), type := 3, pos := "isa.go:31", after := #[eD 9, eG 8], guard := some (8, true) }) (v := ?_) rfl (by kernel_rfl) (by kernel_rfl) (by kernel_rfl) (fun _ _ _ h => h) (Or.inl ⟨rfl, ?_⟩) hHeld ?_
  rotate_left
  · (intro w hSw; (try dsimp only at hSw); go_simp; try with_reducible rfl)
  try simp only [Act.put, List.setIfInBounds_toArray, List.set_cons_zero, List.set_cons_succ]
  refine wpAnyH_ready (rs := [11]) (by kernel_rfl) (by simp) ?_
  refine AllReadyH.cons (o := { dst := some 14, op := Op.call { callee := Callee.value (Operand.func 33), args := #[Operand.tmp 13], argTypes := #[3] }, type := 4, pos := "isa.go:31", after := #[eD 10, eC 8, eG 8], guard := some (8, true) }) rfl (fun K hK => ?_) AllReadyH.nil
  go_simp
  go_at_call 33
  refine (HA.out _).mono ?_
  rintro e w6 ⟨rfl, rfl⟩
  clear hHeld
  refine hK.out _ _ ?_ (fun hHeld => ?_)
  · exact (HX1.out.kept hK5).cells
  clear hK K
  try simp only [Act.put, List.setIfInBounds_toArray, List.set_cons_zero, List.set_cons_succ]
  refine wpAnyH_take (i := 12) (oi := { dst := some 15, op := Op.pick (Operand.tmp 11) (Operand.tmp 14) (Operand.const (Value.bool false)), type := 4, pos := "isa.go:31", after := #[eD 8, eD 11], guard := none }) (v := ?_) rfl (by kernel_rfl) (by kernel_rfl) (by kernel_rfl) (fun _ _ _ h => h) (Or.inl ⟨rfl, ?_⟩) hHeld ?_
  rotate_left
  · (intro w hSw; (try dsimp only at hSw); go_simp; try with_reducible rfl)
  try simp only [Act.put, List.setIfInBounds_toArray, List.set_cons_zero, List.set_cons_succ]
  refine wpAnyH_take (i := 13) (oi := { dst := some 16, op := Op.move (Operand.tmp 15), type := 4, pos := "isa.go:31", after := #[eD 12, eC 11], guard := none }) (v := ?_) rfl (by kernel_rfl) (by kernel_rfl) (by kernel_rfl) (fun _ _ _ h => h) (Or.inl ⟨rfl, ?_⟩) hHeld ?_
  rotate_left
  · (intro w hSw; (try dsimp only at hSw); go_simp; try with_reducible rfl)
  try simp only [Act.put, List.setIfInBounds_toArray, List.set_cons_zero, List.set_cons_succ]
  refine wpAnyH_take (i := 14) (oi := { dst := some 17, op := Op.fieldAddr 23 (Operand.tmp 1) 3, type := 0, pos := "isa.go:31", after := #[eG 13], guard := some (13, true) }) (v := ?_) rfl (by kernel_rfl) (by kernel_rfl) (by kernel_rfl) (fun _ _ _ h => h) (Or.inl ⟨rfl, ?_⟩) hHeld ?_
  rotate_left
  · (intro w hSw; (try dsimp only at hSw); go_simp; try with_reducible rfl)
  try simp only [Act.put, List.setIfInBounds_toArray, List.set_cons_zero, List.set_cons_succ]
  refine wpAnyH_take (i := 15) (oi := { dst := some 18, op := Op.load 3 (Operand.tmp 17), type := 3, pos := "isa.go:31", after := #[eD 14, eG 13], guard := some (13, true) }) (v := ?_) rfl (by kernel_rfl) (by kernel_rfl) (by kernel_rfl) (fun _ _ _ h => h) (Or.inl ⟨rfl, ?_⟩) hHeld ?_
  rotate_left
  · (intro w hSw; (try dsimp only at hSw); go_simp; try with_reducible rfl)
  try simp only [Act.put, List.setIfInBounds_toArray, List.set_cons_zero, List.set_cons_succ]
  refine wpAnyH_ready (rs := [16]) (by kernel_rfl) (by simp) ?_
  refine AllReadyH.cons (o := { dst := some 19, op := Op.call { callee := Callee.value (Operand.func 33), args := #[Operand.tmp 18], argTypes := #[3] }, type := 4, pos := "isa.go:31", after := #[eD 15, eC 13, eG 13], guard := some (13, true) }) rfl (fun K hK => ?_) AllReadyH.nil
  go_simp
  go_at_call 33
  refine (HRB.out _).mono ?_
  rintro e w6 ⟨rfl, rfl⟩
  clear hHeld
  refine hK.out _ _ ?_ (fun hHeld => ?_)
  · exact (HX1.out.kept hK5).cells
  clear hK K
  try simp only [Act.put, List.setIfInBounds_toArray, List.set_cons_zero, List.set_cons_succ]
  refine wpAnyH_take (i := 17) (oi := { dst := some 20, op := Op.pick (Operand.tmp 16) (Operand.tmp 19) (Operand.const (Value.bool false)), type := 4, pos := "isa.go:31", after := #[eD 13, eD 16], guard := none }) (v := ?_) rfl (by kernel_rfl) (by kernel_rfl) (by kernel_rfl) (fun _ _ _ h => h) (Or.inl ⟨rfl, ?_⟩) hHeld ?_
  rotate_left
  · (intro w hSw; (try dsimp only at hSw); go_simp; try with_reducible rfl)
  try simp only [Act.put, List.setIfInBounds_toArray, List.set_cons_zero, List.set_cons_succ]
  refine wpAnyH_take (i := 18) (oi := { dst := some 21, op := Op.move (Operand.tmp 20), type := 4, pos := "isa.go:31", after := #[eD 17, eC 16], guard := none }) (v := ?_) rfl (by kernel_rfl) (by kernel_rfl) (by kernel_rfl) (fun _ _ _ h => h) (Or.inl ⟨rfl, ?_⟩) hHeld ?_
  rotate_left
  · (intro w hSw; (try dsimp only at hSw); go_simp; try with_reducible rfl)
  try simp only [Act.put, List.setIfInBounds_toArray, List.set_cons_zero, List.set_cons_succ]
  refine wpAnyH_take (i := 19) (oi := { dst := some 22, op := Op.fieldAddr 23 (Operand.tmp 1) 4, type := 0, pos := "isa.go:31", after := #[eG 18], guard := some (18, true) }) (v := undef) rfl (by kernel_rfl) (by kernel_rfl) (by kernel_rfl) (fun _ _ _ h => h) (Or.inr ⟨rfl, rfl⟩) hHeld ?_
  try simp only [Act.put, List.setIfInBounds_toArray, List.set_cons_zero, List.set_cons_succ]
  refine wpAnyH_take (i := 20) (oi := { dst := some 23, op := Op.load 3 (Operand.tmp 22), type := 3, pos := "isa.go:31", after := #[eD 19, eG 18], guard := some (18, true) }) (v := undef) rfl (by kernel_rfl) (by kernel_rfl) (by kernel_rfl) (fun _ _ _ h => h) (Or.inr ⟨rfl, rfl⟩) hHeld ?_
  try simp only [Act.put, List.setIfInBounds_toArray, List.set_cons_zero, List.set_cons_succ]
  refine wpAnyH_take (i := 21) (oi := { dst := some 24, op := Op.call { callee := Callee.value (Operand.func 33), args := #[Operand.tmp 23], argTypes := #[3] }, type := 4, pos := "isa.go:31", after := #[eD 20, eC 18, eG 18], guard := some (18, true) }) (v := undef) rfl (by kernel_rfl) (by kernel_rfl) (by kernel_rfl) (fun _ _ _ h => h) (Or.inr ⟨rfl, rfl⟩) hHeld ?_
  try simp only [Act.put, List.setIfInBounds_toArray, List.set_cons_zero, List.set_cons_succ]
  refine wpAnyH_take (i := 22) (oi := { dst := some 25, op := Op.pick (Operand.tmp 21) (Operand.tmp 24) (Operand.const (Value.bool false)), type := 4, pos := "isa.go:31", after := #[eD 18, eD 21], guard := none }) (v := ?_) rfl (by kernel_rfl) (by kernel_rfl) (by kernel_rfl) (fun _ _ _ h => h) (Or.inl ⟨rfl, ?_⟩) hHeld ?_
  rotate_left
  · (intro w hSw; (try dsimp only at hSw); go_simp; try with_reducible rfl)
  try simp only [Act.put, List.setIfInBounds_toArray, List.set_cons_zero, List.set_cons_succ]
  refine wpAnyH_take (i := 23) (oi := { dst := some 26, op := Op.move (Operand.tmp 25), type := 4, pos := "isa.go:31", after := #[eD 22, eC 21], guard := none }) (v := ?_) rfl (by kernel_rfl) (by kernel_rfl) (by kernel_rfl) (fun _ _ _ h => h) (Or.inl ⟨rfl, ?_⟩) hHeld ?_
  rotate_left
  · (intro w hSw; (try dsimp only at hSw); go_simp; try with_reducible rfl)
  try simp only [Act.put, List.setIfInBounds_toArray, List.set_cons_zero, List.set_cons_succ]
  refine wpAnyH_take (i := 24) (oi := { dst := some 27, op := Op.load 23 (Operand.tmp 1), type := 23, pos := "isa.go:31", after := #[eG 23], guard := some (23, true) }) (v := undef) rfl (by kernel_rfl) (by kernel_rfl) (by kernel_rfl) (fun _ _ _ h => h) (Or.inr ⟨rfl, rfl⟩) hHeld ?_
  try simp only [Act.put, List.setIfInBounds_toArray, List.set_cons_zero, List.set_cons_succ]
  refine wpAnyH_take (i := 25) (oi := { dst := some 28, op := Op.call { callee := Callee.value (Operand.func 34), args := #[Operand.tmp 27], argTypes := #[23] }, type := 4, pos := "isa.go:31", after := #[eD 24, eC 23, eG 23], guard := some (23, true) }) (v := undef) rfl (by kernel_rfl) (by kernel_rfl) (by kernel_rfl) (fun _ _ _ h => h) (Or.inr ⟨rfl, rfl⟩) hHeld ?_
  try simp only [Act.put, List.setIfInBounds_toArray, List.set_cons_zero, List.set_cons_succ]
  refine wpAnyH_take (i := 26) (oi := { dst := some 29, op := Op.pick (Operand.tmp 26) (Operand.tmp 28) (Operand.const (Value.bool false)), type := 4, pos := "isa.go:31", after := #[eD 23, eD 25], guard := none }) (v := ?_) rfl (by kernel_rfl) (by kernel_rfl) (by kernel_rfl) (fun _ _ _ h => h) (Or.inl ⟨rfl, ?_⟩) hHeld ?_
  rotate_left
  · (intro w hSw; (try dsimp only at hSw); go_simp; try with_reducible rfl)
  try simp only [Act.put, List.setIfInBounds_toArray, List.set_cons_zero, List.set_cons_succ]
  refine wpAnyH_take (i := 27) (oi := { dst := some 2, op := Op.assign (Operand.tmp 29), type := 4, pos := "isa.go:31", after := #[eD 26, eC 25, eP 0, eP 1, eP 2, eP 3, eP 4, eP 5, eP 6, eP 7, eP 8, eP 9, eP 10, eP 11, eP 12, eP 13, eP 14, eP 15, eP 16, eP 17, eP 18, eP 19, eP 20, eP 21, eP 22, eP 23, eP 24, eP 25, eP 26], guard := none }) (v := ?_) rfl (by kernel_rfl) (by kernel_rfl) (by kernel_rfl) (fun _ _ _ h => h) (Or.inl ⟨rfl, ?_⟩) hHeld ?_
  rotate_left
  · (intro w hSw; (try dsimp only at hSw); go_simp; try with_reducible rfl)
  try simp only [Act.put, List.setIfInBounds_toArray, List.set_cons_zero, List.set_cons_succ]
  refine wpAnyH_done (by kernel_rfl) ?_ _
  go_wp2_with fail
  go_ret
  exact ⟨rfl, HB.out.trans hK5⟩
set_option maxHeartbeats 2000000 in
theorem may_5 (k op a b c i : Int) (u : Bool) (w : World)
    (HN : Hid (∀ w, Calls Try.prog 31 #[.agg #[.int .i64 k, .int .i64 op, .int .i64 a, .int .i64 b, .int .i64 c, .int .i64 i, .bool u]] w fun e w' => e = .returned (.agg #[.int .i64 k, .int .i64 op, .int .i64 a, .int .i64 b, .int .i64 c, .int .i64 i, .bool u]) ∧ Kept w w'))
    (HO : Hid (∀ w, Calls Try.prog 32 #[.agg #[.int .i64 k, .int .i64 op, .int .i64 a, .int .i64 b, .int .i64 c, .int .i64 i, .bool u]] w fun e w' => e = .returned (.bool true) ∧ Kept w w'))
    (HA : Hid (∀ w, Calls Try.prog 33 #[.int .i64 a] w fun e w' => e = .returned (.bool true) ∧ w = w'))
    (HRB : Hid (∀ w, Calls Try.prog 33 #[.int .i64 b] w fun e w' => e = .returned (.bool true) ∧ w = w'))
    (HC : Hid (∀ w, Calls Try.prog 33 #[.int .i64 c] w fun e w' => e = .returned (.bool false) ∧ w = w')) :
    Calls Try.prog 22 #[.agg #[.int .i64 k, .int .i64 op, .int .i64 a, .int .i64 b, .int .i64 c, .int .i64 i, .bool u]] w fun e w' => e = .returned (.bool false) ∧ Kept w w' := by
  have hK0 := Kept.refl (w.alloc (.cells #[.int .i64 k, .int .i64 op, .int .i64 a, .int .i64 b, .int .i64 c, .int .i64 i, .bool u] 23))
  have X1 := Box.new k op a b c i u w
  have hB := show Kept w (w.alloc (.cells #[.int .i64 k, .int .i64 op, .int .i64 a, .int .i64 b, .int .i64 c, .int .i64 i, .bool u] 23)) from (Kept.refl w).alloc _ _
  go_enter Try.func22, Try.ntmps22
  go_wp2_with fail
  generalize (w.alloc (.cells #[.int .i64 k, .int .i64 op, .int .i64 a, .int .i64 b, .int .i64 c, .int .i64 i, .bool u] 23)) = wB at hK0 hB X1
  have HB := Lib.hid hB
  have HX1 := Lib.hid X1
  clear hB X1
  refine wp_region_held_drew (S := fun w' => w'.cell? ⟨w.heap.size, 0, none⟩ = some (.int .i64 k) ∧ w'.cell? ⟨w.heap.size, 1, none⟩ = some (.int .i64 op) ∧ w'.cell? ⟨w.heap.size, 2, none⟩ = some (.int .i64 a) ∧ w'.cell? ⟨w.heap.size, 3, none⟩ = some (.int .i64 b) ∧ w'.cell? ⟨w.heap.size, 4, none⟩ = some (.int .i64 c) ∧ w'.cell? ⟨w.heap.size, 5, none⟩ = some (.int .i64 i) ∧ w'.cell? ⟨w.heap.size, 6, none⟩ = some (.bool u)) (by kernel_rfl) ?_ (fun hHeld => ?_)
  · exact (HX1.out.kept hK0.drew).cells
  refine wpAnyH_take (i := 0) (oi := { dst := some 3, op := Op.load 23 (Operand.tmp 1), type := 23, pos := "isa.go:31", after := #[], guard := none }) (v := ?_) rfl (by kernel_rfl) (by kernel_rfl) (by kernel_rfl) (fun _ _ _ h => h) (Or.inl ⟨rfl, ?_⟩) hHeld ?_
  rotate_left
  · (intro w hSw; (try dsimp only at hSw); go_simp; try with_reducible rfl)
  try simp only [Act.put, List.setIfInBounds_toArray, List.set_cons_zero, List.set_cons_succ]
  refine wpAnyH_take (i := 1) (oi := { dst := some 4, op := Op.load 23 (Operand.tmp 1), type := 23, pos := "isa.go:31", after := #[], guard := none }) (v := ?_) rfl (by kernel_rfl) (by kernel_rfl) (by kernel_rfl) (fun _ _ _ h => h) (Or.inl ⟨rfl, ?_⟩) hHeld ?_
  rotate_left
  · (intro w hSw; (try dsimp only at hSw); go_simp; try with_reducible rfl)
  try simp only [Act.put, List.setIfInBounds_toArray, List.set_cons_zero, List.set_cons_succ]
  refine wpAnyH_ready (rs := [2]) (by kernel_rfl) (by simp) ?_
  refine AllReadyH.cons (o := { dst := some 5, op := Op.call { callee := Callee.value (Operand.func 31), args := #[Operand.tmp 4], argTypes := #[23] }, type := 23, pos := "isa.go:31", after := #[eD 1], guard := none }) rfl (fun K hK => ?_) AllReadyH.nil
  go_simp
  go_at_call 31
  refine (HN.out _).mono ?_
  rintro e w5 ⟨rfl, hK5⟩
  replace hK5 := Kept.trans hK0.drew hK5
  clear hHeld
  refine hK.out _ _ ?_ (fun hHeld => ?_)
  · exact (HX1.out.kept hK5).cells
  clear hK K
  try simp only [Act.put, List.setIfInBounds_toArray, List.set_cons_zero, List.set_cons_succ]
  refine wpAnyH_take (i := 3) (oi := { dst := some 6, op := Op.binOp BinOp.eql 23 (Operand.tmp 3) (Operand.tmp 5) 23, type := 4, pos := "isa.go:31", after := #[eD 0, eD 2], guard := none }) (v := ?_) rfl (by kernel_rfl) (by kernel_rfl) (by kernel_rfl) (fun _ _ _ h => h) (Or.inl ⟨rfl, ?_⟩) hHeld ?_
  rotate_left
  · (intro w hSw; (try dsimp only at hSw); go_simp; try with_reducible rfl)
  try simp only [Act.put, List.setIfInBounds_toArray, List.set_cons_zero, List.set_cons_succ]
  refine wpAnyH_take (i := 4) (oi := { dst := some 7, op := Op.move (Operand.tmp 6), type := 4, pos := "isa.go:31", after := #[eD 3, eC 2], guard := none }) (v := ?_) rfl (by kernel_rfl) (by kernel_rfl) (by kernel_rfl) (fun _ _ _ h => h) (Or.inl ⟨rfl, ?_⟩) hHeld ?_
  rotate_left
  · (intro w hSw; (try dsimp only at hSw); go_simp; try with_reducible rfl)
  try simp only [Act.put, List.setIfInBounds_toArray, List.set_cons_zero, List.set_cons_succ]
  refine wpAnyH_take (i := 5) (oi := { dst := some 8, op := Op.load 23 (Operand.tmp 1), type := 23, pos := "isa.go:31", after := #[eG 4], guard := some (4, true) }) (v := ?_) rfl (by kernel_rfl) (by kernel_rfl) (by kernel_rfl) (fun _ _ _ h => h) (Or.inl ⟨rfl, ?_⟩) hHeld ?_
  rotate_left
  · (intro w hSw; (try dsimp only at hSw); go_simp; try with_reducible rfl)
  try simp only [Act.put, List.setIfInBounds_toArray, List.set_cons_zero, List.set_cons_succ]
  refine wpAnyH_ready (rs := [6]) (by kernel_rfl) (by simp) ?_
  refine AllReadyH.cons (o := { dst := some 9, op := Op.call { callee := Callee.value (Operand.func 32), args := #[Operand.tmp 8], argTypes := #[23] }, type := 4, pos := "isa.go:31", after := #[eD 5, eC 4, eG 4], guard := some (4, true) }) rfl (fun K hK => ?_) AllReadyH.nil
  go_simp
  go_at_call 32
  refine (HO.out _).mono ?_
  rintro e w6 ⟨rfl, hK6⟩
  replace hK6 := hK5.trans hK6
  clear hK5
  have hK5 := hK6
  clear hK6
  clear hHeld
  refine hK.out _ _ ?_ (fun hHeld => ?_)
  · exact (HX1.out.kept hK5).cells
  clear hK K
  try simp only [Act.put, List.setIfInBounds_toArray, List.set_cons_zero, List.set_cons_succ]
  refine wpAnyH_take (i := 7) (oi := { dst := some 10, op := Op.pick (Operand.tmp 7) (Operand.tmp 9) (Operand.const (Value.bool false)), type := 4, pos := "isa.go:31", after := #[eD 4, eD 6], guard := none }) (v := ?_) rfl (by kernel_rfl) (by kernel_rfl) (by kernel_rfl) (fun _ _ _ h => h) (Or.inl ⟨rfl, ?_⟩) hHeld ?_
  rotate_left
  · (intro w hSw; (try dsimp only at hSw); go_simp; try with_reducible rfl)
  try simp only [Act.put, List.setIfInBounds_toArray, List.set_cons_zero, List.set_cons_succ]
  refine wpAnyH_take (i := 8) (oi := { dst := some 11, op := Op.move (Operand.tmp 10), type := 4, pos := "isa.go:31", after := #[eD 7, eC 6], guard := none }) (v := ?_) rfl (by kernel_rfl) (by kernel_rfl) (by kernel_rfl) (fun _ _ _ h => h) (Or.inl ⟨rfl, ?_⟩) hHeld ?_
  rotate_left
  · (intro w hSw; (try dsimp only at hSw); go_simp; try with_reducible rfl)
  try simp only [Act.put, List.setIfInBounds_toArray, List.set_cons_zero, List.set_cons_succ]
  refine wpAnyH_take (i := 9) (oi := { dst := some 12, op := Op.fieldAddr 23 (Operand.tmp 1) 2, type := 0, pos := "isa.go:31", after := #[eG 8], guard := some (8, true) }) (v := ?_) rfl (by kernel_rfl) (by kernel_rfl) (by kernel_rfl) (fun _ _ _ h => h) (Or.inl ⟨rfl, ?_⟩) hHeld ?_
  rotate_left
  · (intro w hSw; (try dsimp only at hSw); go_simp; try with_reducible rfl)
  try simp only [Act.put, List.setIfInBounds_toArray, List.set_cons_zero, List.set_cons_succ]
  refine wpAnyH_take (i := 10) (oi := { dst := some 13, op := Op.load 3 (Operand.tmp 12), type := 3, pos := "isa.go:31", after := #[eD 9, eG 8], guard := some (8, true) }) (v := ?_) rfl (by kernel_rfl) (by kernel_rfl) (by kernel_rfl) (fun _ _ _ h => h) (Or.inl ⟨rfl, ?_⟩) hHeld ?_
  rotate_left
  · (intro w hSw; (try dsimp only at hSw); go_simp; try with_reducible rfl)
  try simp only [Act.put, List.setIfInBounds_toArray, List.set_cons_zero, List.set_cons_succ]
  refine wpAnyH_ready (rs := [11]) (by kernel_rfl) (by simp) ?_
  refine AllReadyH.cons (o := { dst := some 14, op := Op.call { callee := Callee.value (Operand.func 33), args := #[Operand.tmp 13], argTypes := #[3] }, type := 4, pos := "isa.go:31", after := #[eD 10, eC 8, eG 8], guard := some (8, true) }) rfl (fun K hK => ?_) AllReadyH.nil
  go_simp
  go_at_call 33
  refine (HA.out _).mono ?_
  rintro e w6 ⟨rfl, rfl⟩
  clear hHeld
  refine hK.out _ _ ?_ (fun hHeld => ?_)
  · exact (HX1.out.kept hK5).cells
  clear hK K
  try simp only [Act.put, List.setIfInBounds_toArray, List.set_cons_zero, List.set_cons_succ]
  refine wpAnyH_take (i := 12) (oi := { dst := some 15, op := Op.pick (Operand.tmp 11) (Operand.tmp 14) (Operand.const (Value.bool false)), type := 4, pos := "isa.go:31", after := #[eD 8, eD 11], guard := none }) (v := ?_) rfl (by kernel_rfl) (by kernel_rfl) (by kernel_rfl) (fun _ _ _ h => h) (Or.inl ⟨rfl, ?_⟩) hHeld ?_
  rotate_left
  · (intro w hSw; (try dsimp only at hSw); go_simp; try with_reducible rfl)
  try simp only [Act.put, List.setIfInBounds_toArray, List.set_cons_zero, List.set_cons_succ]
  refine wpAnyH_take (i := 13) (oi := { dst := some 16, op := Op.move (Operand.tmp 15), type := 4, pos := "isa.go:31", after := #[eD 12, eC 11], guard := none }) (v := ?_) rfl (by kernel_rfl) (by kernel_rfl) (by kernel_rfl) (fun _ _ _ h => h) (Or.inl ⟨rfl, ?_⟩) hHeld ?_
  rotate_left
  · (intro w hSw; (try dsimp only at hSw); go_simp; try with_reducible rfl)
  try simp only [Act.put, List.setIfInBounds_toArray, List.set_cons_zero, List.set_cons_succ]
  refine wpAnyH_take (i := 14) (oi := { dst := some 17, op := Op.fieldAddr 23 (Operand.tmp 1) 3, type := 0, pos := "isa.go:31", after := #[eG 13], guard := some (13, true) }) (v := ?_) rfl (by kernel_rfl) (by kernel_rfl) (by kernel_rfl) (fun _ _ _ h => h) (Or.inl ⟨rfl, ?_⟩) hHeld ?_
  rotate_left
  · (intro w hSw; (try dsimp only at hSw); go_simp; try with_reducible rfl)
  try simp only [Act.put, List.setIfInBounds_toArray, List.set_cons_zero, List.set_cons_succ]
  refine wpAnyH_take (i := 15) (oi := { dst := some 18, op := Op.load 3 (Operand.tmp 17), type := 3, pos := "isa.go:31", after := #[eD 14, eG 13], guard := some (13, true) }) (v := ?_) rfl (by kernel_rfl) (by kernel_rfl) (by kernel_rfl) (fun _ _ _ h => h) (Or.inl ⟨rfl, ?_⟩) hHeld ?_
  rotate_left
  · (intro w hSw; (try dsimp only at hSw); go_simp; try with_reducible rfl)
  try simp only [Act.put, List.setIfInBounds_toArray, List.set_cons_zero, List.set_cons_succ]
  refine wpAnyH_ready (rs := [16]) (by kernel_rfl) (by simp) ?_
  refine AllReadyH.cons (o := { dst := some 19, op := Op.call { callee := Callee.value (Operand.func 33), args := #[Operand.tmp 18], argTypes := #[3] }, type := 4, pos := "isa.go:31", after := #[eD 15, eC 13, eG 13], guard := some (13, true) }) rfl (fun K hK => ?_) AllReadyH.nil
  go_simp
  go_at_call 33
  refine (HRB.out _).mono ?_
  rintro e w6 ⟨rfl, rfl⟩
  clear hHeld
  refine hK.out _ _ ?_ (fun hHeld => ?_)
  · exact (HX1.out.kept hK5).cells
  clear hK K
  try simp only [Act.put, List.setIfInBounds_toArray, List.set_cons_zero, List.set_cons_succ]
  refine wpAnyH_take (i := 17) (oi := { dst := some 20, op := Op.pick (Operand.tmp 16) (Operand.tmp 19) (Operand.const (Value.bool false)), type := 4, pos := "isa.go:31", after := #[eD 13, eD 16], guard := none }) (v := ?_) rfl (by kernel_rfl) (by kernel_rfl) (by kernel_rfl) (fun _ _ _ h => h) (Or.inl ⟨rfl, ?_⟩) hHeld ?_
  rotate_left
  · (intro w hSw; (try dsimp only at hSw); go_simp; try with_reducible rfl)
  try simp only [Act.put, List.setIfInBounds_toArray, List.set_cons_zero, List.set_cons_succ]
  refine wpAnyH_take (i := 18) (oi := { dst := some 21, op := Op.move (Operand.tmp 20), type := 4, pos := "isa.go:31", after := #[eD 17, eC 16], guard := none }) (v := ?_) rfl (by kernel_rfl) (by kernel_rfl) (by kernel_rfl) (fun _ _ _ h => h) (Or.inl ⟨rfl, ?_⟩) hHeld ?_
  rotate_left
  · (intro w hSw; (try dsimp only at hSw); go_simp; try with_reducible rfl)
  try simp only [Act.put, List.setIfInBounds_toArray, List.set_cons_zero, List.set_cons_succ]
  refine wpAnyH_take (i := 19) (oi := { dst := some 22, op := Op.fieldAddr 23 (Operand.tmp 1) 4, type := 0, pos := "isa.go:31", after := #[eG 18], guard := some (18, true) }) (v := ?_) rfl (by kernel_rfl) (by kernel_rfl) (by kernel_rfl) (fun _ _ _ h => h) (Or.inl ⟨rfl, ?_⟩) hHeld ?_
  rotate_left
  · (intro w hSw; (try dsimp only at hSw); go_simp; try with_reducible rfl)
  try simp only [Act.put, List.setIfInBounds_toArray, List.set_cons_zero, List.set_cons_succ]
  refine wpAnyH_take (i := 20) (oi := { dst := some 23, op := Op.load 3 (Operand.tmp 22), type := 3, pos := "isa.go:31", after := #[eD 19, eG 18], guard := some (18, true) }) (v := ?_) rfl (by kernel_rfl) (by kernel_rfl) (by kernel_rfl) (fun _ _ _ h => h) (Or.inl ⟨rfl, ?_⟩) hHeld ?_
  rotate_left
  · (intro w hSw; (try dsimp only at hSw); go_simp; try with_reducible rfl)
  try simp only [Act.put, List.setIfInBounds_toArray, List.set_cons_zero, List.set_cons_succ]
  refine wpAnyH_ready (rs := [21]) (by kernel_rfl) (by simp) ?_
  refine AllReadyH.cons (o := { dst := some 24, op := Op.call { callee := Callee.value (Operand.func 33), args := #[Operand.tmp 23], argTypes := #[3] }, type := 4, pos := "isa.go:31", after := #[eD 20, eC 18, eG 18], guard := some (18, true) }) rfl (fun K hK => ?_) AllReadyH.nil
  go_simp
  go_at_call 33
  refine (HC.out _).mono ?_
  rintro e w6 ⟨rfl, rfl⟩
  clear hHeld
  refine hK.out _ _ ?_ (fun hHeld => ?_)
  · exact (HX1.out.kept hK5).cells
  clear hK K
  try simp only [Act.put, List.setIfInBounds_toArray, List.set_cons_zero, List.set_cons_succ]
  refine wpAnyH_take (i := 22) (oi := { dst := some 25, op := Op.pick (Operand.tmp 21) (Operand.tmp 24) (Operand.const (Value.bool false)), type := 4, pos := "isa.go:31", after := #[eD 18, eD 21], guard := none }) (v := ?_) rfl (by kernel_rfl) (by kernel_rfl) (by kernel_rfl) (fun _ _ _ h => h) (Or.inl ⟨rfl, ?_⟩) hHeld ?_
  rotate_left
  · (intro w hSw; (try dsimp only at hSw); go_simp; try with_reducible rfl)
  try simp only [Act.put, List.setIfInBounds_toArray, List.set_cons_zero, List.set_cons_succ]
  refine wpAnyH_take (i := 23) (oi := { dst := some 26, op := Op.move (Operand.tmp 25), type := 4, pos := "isa.go:31", after := #[eD 22, eC 21], guard := none }) (v := ?_) rfl (by kernel_rfl) (by kernel_rfl) (by kernel_rfl) (fun _ _ _ h => h) (Or.inl ⟨rfl, ?_⟩) hHeld ?_
  rotate_left
  · (intro w hSw; (try dsimp only at hSw); go_simp; try with_reducible rfl)
  try simp only [Act.put, List.setIfInBounds_toArray, List.set_cons_zero, List.set_cons_succ]
  refine wpAnyH_take (i := 24) (oi := { dst := some 27, op := Op.load 23 (Operand.tmp 1), type := 23, pos := "isa.go:31", after := #[eG 23], guard := some (23, true) }) (v := undef) rfl (by kernel_rfl) (by kernel_rfl) (by kernel_rfl) (fun _ _ _ h => h) (Or.inr ⟨rfl, rfl⟩) hHeld ?_
  try simp only [Act.put, List.setIfInBounds_toArray, List.set_cons_zero, List.set_cons_succ]
  refine wpAnyH_take (i := 25) (oi := { dst := some 28, op := Op.call { callee := Callee.value (Operand.func 34), args := #[Operand.tmp 27], argTypes := #[23] }, type := 4, pos := "isa.go:31", after := #[eD 24, eC 23, eG 23], guard := some (23, true) }) (v := undef) rfl (by kernel_rfl) (by kernel_rfl) (by kernel_rfl) (fun _ _ _ h => h) (Or.inr ⟨rfl, rfl⟩) hHeld ?_
  try simp only [Act.put, List.setIfInBounds_toArray, List.set_cons_zero, List.set_cons_succ]
  refine wpAnyH_take (i := 26) (oi := { dst := some 29, op := Op.pick (Operand.tmp 26) (Operand.tmp 28) (Operand.const (Value.bool false)), type := 4, pos := "isa.go:31", after := #[eD 23, eD 25], guard := none }) (v := ?_) rfl (by kernel_rfl) (by kernel_rfl) (by kernel_rfl) (fun _ _ _ h => h) (Or.inl ⟨rfl, ?_⟩) hHeld ?_
  rotate_left
  · (intro w hSw; (try dsimp only at hSw); go_simp; try with_reducible rfl)
  try simp only [Act.put, List.setIfInBounds_toArray, List.set_cons_zero, List.set_cons_succ]
  refine wpAnyH_take (i := 27) (oi := { dst := some 2, op := Op.assign (Operand.tmp 29), type := 4, pos := "isa.go:31", after := #[eD 26, eC 25, eP 0, eP 1, eP 2, eP 3, eP 4, eP 5, eP 6, eP 7, eP 8, eP 9, eP 10, eP 11, eP 12, eP 13, eP 14, eP 15, eP 16, eP 17, eP 18, eP 19, eP 20, eP 21, eP 22, eP 23, eP 24, eP 25, eP 26], guard := none }) (v := ?_) rfl (by kernel_rfl) (by kernel_rfl) (by kernel_rfl) (fun _ _ _ h => h) (Or.inl ⟨rfl, ?_⟩) hHeld ?_
  rotate_left
  · (intro w hSw; (try dsimp only at hSw); go_simp; try with_reducible rfl)
  try simp only [Act.put, List.setIfInBounds_toArray, List.set_cons_zero, List.set_cons_succ]
  refine wpAnyH_done (by kernel_rfl) ?_ _
  go_wp2_with fail
  go_ret
  exact ⟨rfl, HB.out.trans hK5⟩
set_option maxHeartbeats 2000000 in
theorem may_6 (k op a b c i : Int) (u : Bool) (w : World)
    (HN : Hid (∀ w, Calls Try.prog 31 #[.agg #[.int .i64 k, .int .i64 op, .int .i64 a, .int .i64 b, .int .i64 c, .int .i64 i, .bool u]] w fun e w' => e = .returned (.agg #[.int .i64 k, .int .i64 op, .int .i64 a, .int .i64 b, .int .i64 c, .int .i64 i, .bool u]) ∧ Kept w w'))
    (HO : Hid (∀ w, Calls Try.prog 32 #[.agg #[.int .i64 k, .int .i64 op, .int .i64 a, .int .i64 b, .int .i64 c, .int .i64 i, .bool u]] w fun e w' => e = .returned (.bool true) ∧ Kept w w'))
    (HA : Hid (∀ w, Calls Try.prog 33 #[.int .i64 a] w fun e w' => e = .returned (.bool true) ∧ w = w'))
    (HRB : Hid (∀ w, Calls Try.prog 33 #[.int .i64 b] w fun e w' => e = .returned (.bool true) ∧ w = w'))
    (HC : Hid (∀ w, Calls Try.prog 33 #[.int .i64 c] w fun e w' => e = .returned (.bool true) ∧ w = w'))
    (HI : Hid (∀ w, Calls Try.prog 34 #[.agg #[.int .i64 k, .int .i64 op, .int .i64 a, .int .i64 b, .int .i64 c, .int .i64 i, .bool u]] w fun e w' => e = .returned (.bool false) ∧ Kept w w')) :
    Calls Try.prog 22 #[.agg #[.int .i64 k, .int .i64 op, .int .i64 a, .int .i64 b, .int .i64 c, .int .i64 i, .bool u]] w fun e w' => e = .returned (.bool false) ∧ Kept w w' := by
  have hK0 := Kept.refl (w.alloc (.cells #[.int .i64 k, .int .i64 op, .int .i64 a, .int .i64 b, .int .i64 c, .int .i64 i, .bool u] 23))
  have X1 := Box.new k op a b c i u w
  have hB := show Kept w (w.alloc (.cells #[.int .i64 k, .int .i64 op, .int .i64 a, .int .i64 b, .int .i64 c, .int .i64 i, .bool u] 23)) from (Kept.refl w).alloc _ _
  go_enter Try.func22, Try.ntmps22
  go_wp2_with fail
  generalize (w.alloc (.cells #[.int .i64 k, .int .i64 op, .int .i64 a, .int .i64 b, .int .i64 c, .int .i64 i, .bool u] 23)) = wB at hK0 hB X1
  have HB := Lib.hid hB
  have HX1 := Lib.hid X1
  clear hB X1
  refine wp_region_held_drew (S := fun w' => w'.cell? ⟨w.heap.size, 0, none⟩ = some (.int .i64 k) ∧ w'.cell? ⟨w.heap.size, 1, none⟩ = some (.int .i64 op) ∧ w'.cell? ⟨w.heap.size, 2, none⟩ = some (.int .i64 a) ∧ w'.cell? ⟨w.heap.size, 3, none⟩ = some (.int .i64 b) ∧ w'.cell? ⟨w.heap.size, 4, none⟩ = some (.int .i64 c) ∧ w'.cell? ⟨w.heap.size, 5, none⟩ = some (.int .i64 i) ∧ w'.cell? ⟨w.heap.size, 6, none⟩ = some (.bool u)) (by kernel_rfl) ?_ (fun hHeld => ?_)
  · exact (HX1.out.kept hK0.drew).cells
  refine wpAnyH_take (i := 0) (oi := { dst := some 3, op := Op.load 23 (Operand.tmp 1), type := 23, pos := "isa.go:31", after := #[], guard := none }) (v := ?_) rfl (by kernel_rfl) (by kernel_rfl) (by kernel_rfl) (fun _ _ _ h => h) (Or.inl ⟨rfl, ?_⟩) hHeld ?_
  rotate_left
  · (intro w hSw; (try dsimp only at hSw); go_simp; try with_reducible rfl)
  try simp only [Act.put, List.setIfInBounds_toArray, List.set_cons_zero, List.set_cons_succ]
  refine wpAnyH_take (i := 1) (oi := { dst := some 4, op := Op.load 23 (Operand.tmp 1), type := 23, pos := "isa.go:31", after := #[], guard := none }) (v := ?_) rfl (by kernel_rfl) (by kernel_rfl) (by kernel_rfl) (fun _ _ _ h => h) (Or.inl ⟨rfl, ?_⟩) hHeld ?_
  rotate_left
  · (intro w hSw; (try dsimp only at hSw); go_simp; try with_reducible rfl)
  try simp only [Act.put, List.setIfInBounds_toArray, List.set_cons_zero, List.set_cons_succ]
  refine wpAnyH_ready (rs := [2]) (by kernel_rfl) (by simp) ?_
  refine AllReadyH.cons (o := { dst := some 5, op := Op.call { callee := Callee.value (Operand.func 31), args := #[Operand.tmp 4], argTypes := #[23] }, type := 23, pos := "isa.go:31", after := #[eD 1], guard := none }) rfl (fun K hK => ?_) AllReadyH.nil
  go_simp
  go_at_call 31
  refine (HN.out _).mono ?_
  rintro e w5 ⟨rfl, hK5⟩
  replace hK5 := Kept.trans hK0.drew hK5
  clear hHeld
  refine hK.out _ _ ?_ (fun hHeld => ?_)
  · exact (HX1.out.kept hK5).cells
  clear hK K
  try simp only [Act.put, List.setIfInBounds_toArray, List.set_cons_zero, List.set_cons_succ]
  refine wpAnyH_take (i := 3) (oi := { dst := some 6, op := Op.binOp BinOp.eql 23 (Operand.tmp 3) (Operand.tmp 5) 23, type := 4, pos := "isa.go:31", after := #[eD 0, eD 2], guard := none }) (v := ?_) rfl (by kernel_rfl) (by kernel_rfl) (by kernel_rfl) (fun _ _ _ h => h) (Or.inl ⟨rfl, ?_⟩) hHeld ?_
  rotate_left
  · (intro w hSw; (try dsimp only at hSw); go_simp; try with_reducible rfl)
  try simp only [Act.put, List.setIfInBounds_toArray, List.set_cons_zero, List.set_cons_succ]
  refine wpAnyH_take (i := 4) (oi := { dst := some 7, op := Op.move (Operand.tmp 6), type := 4, pos := "isa.go:31", after := #[eD 3, eC 2], guard := none }) (v := ?_) rfl (by kernel_rfl) (by kernel_rfl) (by kernel_rfl) (fun _ _ _ h => h) (Or.inl ⟨rfl, ?_⟩) hHeld ?_
  rotate_left
  · (intro w hSw; (try dsimp only at hSw); go_simp; try with_reducible rfl)
  try simp only [Act.put, List.setIfInBounds_toArray, List.set_cons_zero, List.set_cons_succ]
  refine wpAnyH_take (i := 5) (oi := { dst := some 8, op := Op.load 23 (Operand.tmp 1), type := 23, pos := "isa.go:31", after := #[eG 4], guard := some (4, true) }) (v := ?_) rfl (by kernel_rfl) (by kernel_rfl) (by kernel_rfl) (fun _ _ _ h => h) (Or.inl ⟨rfl, ?_⟩) hHeld ?_
  rotate_left
  · (intro w hSw; (try dsimp only at hSw); go_simp; try with_reducible rfl)
  try simp only [Act.put, List.setIfInBounds_toArray, List.set_cons_zero, List.set_cons_succ]
  refine wpAnyH_ready (rs := [6]) (by kernel_rfl) (by simp) ?_
  refine AllReadyH.cons (o := { dst := some 9, op := Op.call { callee := Callee.value (Operand.func 32), args := #[Operand.tmp 8], argTypes := #[23] }, type := 4, pos := "isa.go:31", after := #[eD 5, eC 4, eG 4], guard := some (4, true) }) rfl (fun K hK => ?_) AllReadyH.nil
  go_simp
  go_at_call 32
  refine (HO.out _).mono ?_
  rintro e w6 ⟨rfl, hK6⟩
  replace hK6 := hK5.trans hK6
  clear hK5
  have hK5 := hK6
  clear hK6
  clear hHeld
  refine hK.out _ _ ?_ (fun hHeld => ?_)
  · exact (HX1.out.kept hK5).cells
  clear hK K
  try simp only [Act.put, List.setIfInBounds_toArray, List.set_cons_zero, List.set_cons_succ]
  refine wpAnyH_take (i := 7) (oi := { dst := some 10, op := Op.pick (Operand.tmp 7) (Operand.tmp 9) (Operand.const (Value.bool false)), type := 4, pos := "isa.go:31", after := #[eD 4, eD 6], guard := none }) (v := ?_) rfl (by kernel_rfl) (by kernel_rfl) (by kernel_rfl) (fun _ _ _ h => h) (Or.inl ⟨rfl, ?_⟩) hHeld ?_
  rotate_left
  · (intro w hSw; (try dsimp only at hSw); go_simp; try with_reducible rfl)
  try simp only [Act.put, List.setIfInBounds_toArray, List.set_cons_zero, List.set_cons_succ]
  refine wpAnyH_take (i := 8) (oi := { dst := some 11, op := Op.move (Operand.tmp 10), type := 4, pos := "isa.go:31", after := #[eD 7, eC 6], guard := none }) (v := ?_) rfl (by kernel_rfl) (by kernel_rfl) (by kernel_rfl) (fun _ _ _ h => h) (Or.inl ⟨rfl, ?_⟩) hHeld ?_
  rotate_left
  · (intro w hSw; (try dsimp only at hSw); go_simp; try with_reducible rfl)
  try simp only [Act.put, List.setIfInBounds_toArray, List.set_cons_zero, List.set_cons_succ]
  refine wpAnyH_take (i := 9) (oi := { dst := some 12, op := Op.fieldAddr 23 (Operand.tmp 1) 2, type := 0, pos := "isa.go:31", after := #[eG 8], guard := some (8, true) }) (v := ?_) rfl (by kernel_rfl) (by kernel_rfl) (by kernel_rfl) (fun _ _ _ h => h) (Or.inl ⟨rfl, ?_⟩) hHeld ?_
  rotate_left
  · (intro w hSw; (try dsimp only at hSw); go_simp; try with_reducible rfl)
  try simp only [Act.put, List.setIfInBounds_toArray, List.set_cons_zero, List.set_cons_succ]
  refine wpAnyH_take (i := 10) (oi := { dst := some 13, op := Op.load 3 (Operand.tmp 12), type := 3, pos := "isa.go:31", after := #[eD 9, eG 8], guard := some (8, true) }) (v := ?_) rfl (by kernel_rfl) (by kernel_rfl) (by kernel_rfl) (fun _ _ _ h => h) (Or.inl ⟨rfl, ?_⟩) hHeld ?_
  rotate_left
  · (intro w hSw; (try dsimp only at hSw); go_simp; try with_reducible rfl)
  try simp only [Act.put, List.setIfInBounds_toArray, List.set_cons_zero, List.set_cons_succ]
  refine wpAnyH_ready (rs := [11]) (by kernel_rfl) (by simp) ?_
  refine AllReadyH.cons (o := { dst := some 14, op := Op.call { callee := Callee.value (Operand.func 33), args := #[Operand.tmp 13], argTypes := #[3] }, type := 4, pos := "isa.go:31", after := #[eD 10, eC 8, eG 8], guard := some (8, true) }) rfl (fun K hK => ?_) AllReadyH.nil
  go_simp
  go_at_call 33
  refine (HA.out _).mono ?_
  rintro e w6 ⟨rfl, rfl⟩
  clear hHeld
  refine hK.out _ _ ?_ (fun hHeld => ?_)
  · exact (HX1.out.kept hK5).cells
  clear hK K
  try simp only [Act.put, List.setIfInBounds_toArray, List.set_cons_zero, List.set_cons_succ]
  refine wpAnyH_take (i := 12) (oi := { dst := some 15, op := Op.pick (Operand.tmp 11) (Operand.tmp 14) (Operand.const (Value.bool false)), type := 4, pos := "isa.go:31", after := #[eD 8, eD 11], guard := none }) (v := ?_) rfl (by kernel_rfl) (by kernel_rfl) (by kernel_rfl) (fun _ _ _ h => h) (Or.inl ⟨rfl, ?_⟩) hHeld ?_
  rotate_left
  · (intro w hSw; (try dsimp only at hSw); go_simp; try with_reducible rfl)
  try simp only [Act.put, List.setIfInBounds_toArray, List.set_cons_zero, List.set_cons_succ]
  refine wpAnyH_take (i := 13) (oi := { dst := some 16, op := Op.move (Operand.tmp 15), type := 4, pos := "isa.go:31", after := #[eD 12, eC 11], guard := none }) (v := ?_) rfl (by kernel_rfl) (by kernel_rfl) (by kernel_rfl) (fun _ _ _ h => h) (Or.inl ⟨rfl, ?_⟩) hHeld ?_
  rotate_left
  · (intro w hSw; (try dsimp only at hSw); go_simp; try with_reducible rfl)
  try simp only [Act.put, List.setIfInBounds_toArray, List.set_cons_zero, List.set_cons_succ]
  refine wpAnyH_take (i := 14) (oi := { dst := some 17, op := Op.fieldAddr 23 (Operand.tmp 1) 3, type := 0, pos := "isa.go:31", after := #[eG 13], guard := some (13, true) }) (v := ?_) rfl (by kernel_rfl) (by kernel_rfl) (by kernel_rfl) (fun _ _ _ h => h) (Or.inl ⟨rfl, ?_⟩) hHeld ?_
  rotate_left
  · (intro w hSw; (try dsimp only at hSw); go_simp; try with_reducible rfl)
  try simp only [Act.put, List.setIfInBounds_toArray, List.set_cons_zero, List.set_cons_succ]
  refine wpAnyH_take (i := 15) (oi := { dst := some 18, op := Op.load 3 (Operand.tmp 17), type := 3, pos := "isa.go:31", after := #[eD 14, eG 13], guard := some (13, true) }) (v := ?_) rfl (by kernel_rfl) (by kernel_rfl) (by kernel_rfl) (fun _ _ _ h => h) (Or.inl ⟨rfl, ?_⟩) hHeld ?_
  rotate_left
  · (intro w hSw; (try dsimp only at hSw); go_simp; try with_reducible rfl)
  try simp only [Act.put, List.setIfInBounds_toArray, List.set_cons_zero, List.set_cons_succ]
  refine wpAnyH_ready (rs := [16]) (by kernel_rfl) (by simp) ?_
  refine AllReadyH.cons (o := { dst := some 19, op := Op.call { callee := Callee.value (Operand.func 33), args := #[Operand.tmp 18], argTypes := #[3] }, type := 4, pos := "isa.go:31", after := #[eD 15, eC 13, eG 13], guard := some (13, true) }) rfl (fun K hK => ?_) AllReadyH.nil
  go_simp
  go_at_call 33
  refine (HRB.out _).mono ?_
  rintro e w6 ⟨rfl, rfl⟩
  clear hHeld
  refine hK.out _ _ ?_ (fun hHeld => ?_)
  · exact (HX1.out.kept hK5).cells
  clear hK K
  try simp only [Act.put, List.setIfInBounds_toArray, List.set_cons_zero, List.set_cons_succ]
  refine wpAnyH_take (i := 17) (oi := { dst := some 20, op := Op.pick (Operand.tmp 16) (Operand.tmp 19) (Operand.const (Value.bool false)), type := 4, pos := "isa.go:31", after := #[eD 13, eD 16], guard := none }) (v := ?_) rfl (by kernel_rfl) (by kernel_rfl) (by kernel_rfl) (fun _ _ _ h => h) (Or.inl ⟨rfl, ?_⟩) hHeld ?_
  rotate_left
  · (intro w hSw; (try dsimp only at hSw); go_simp; try with_reducible rfl)
  try simp only [Act.put, List.setIfInBounds_toArray, List.set_cons_zero, List.set_cons_succ]
  refine wpAnyH_take (i := 18) (oi := { dst := some 21, op := Op.move (Operand.tmp 20), type := 4, pos := "isa.go:31", after := #[eD 17, eC 16], guard := none }) (v := ?_) rfl (by kernel_rfl) (by kernel_rfl) (by kernel_rfl) (fun _ _ _ h => h) (Or.inl ⟨rfl, ?_⟩) hHeld ?_
  rotate_left
  · (intro w hSw; (try dsimp only at hSw); go_simp; try with_reducible rfl)
  try simp only [Act.put, List.setIfInBounds_toArray, List.set_cons_zero, List.set_cons_succ]
  refine wpAnyH_take (i := 19) (oi := { dst := some 22, op := Op.fieldAddr 23 (Operand.tmp 1) 4, type := 0, pos := "isa.go:31", after := #[eG 18], guard := some (18, true) }) (v := ?_) rfl (by kernel_rfl) (by kernel_rfl) (by kernel_rfl) (fun _ _ _ h => h) (Or.inl ⟨rfl, ?_⟩) hHeld ?_
  rotate_left
  · (intro w hSw; (try dsimp only at hSw); go_simp; try with_reducible rfl)
  try simp only [Act.put, List.setIfInBounds_toArray, List.set_cons_zero, List.set_cons_succ]
  refine wpAnyH_take (i := 20) (oi := { dst := some 23, op := Op.load 3 (Operand.tmp 22), type := 3, pos := "isa.go:31", after := #[eD 19, eG 18], guard := some (18, true) }) (v := ?_) rfl (by kernel_rfl) (by kernel_rfl) (by kernel_rfl) (fun _ _ _ h => h) (Or.inl ⟨rfl, ?_⟩) hHeld ?_
  rotate_left
  · (intro w hSw; (try dsimp only at hSw); go_simp; try with_reducible rfl)
  try simp only [Act.put, List.setIfInBounds_toArray, List.set_cons_zero, List.set_cons_succ]
  refine wpAnyH_ready (rs := [21]) (by kernel_rfl) (by simp) ?_
  refine AllReadyH.cons (o := { dst := some 24, op := Op.call { callee := Callee.value (Operand.func 33), args := #[Operand.tmp 23], argTypes := #[3] }, type := 4, pos := "isa.go:31", after := #[eD 20, eC 18, eG 18], guard := some (18, true) }) rfl (fun K hK => ?_) AllReadyH.nil
  go_simp
  go_at_call 33
  refine (HC.out _).mono ?_
  rintro e w6 ⟨rfl, rfl⟩
  clear hHeld
  refine hK.out _ _ ?_ (fun hHeld => ?_)
  · exact (HX1.out.kept hK5).cells
  clear hK K
  try simp only [Act.put, List.setIfInBounds_toArray, List.set_cons_zero, List.set_cons_succ]
  refine wpAnyH_take (i := 22) (oi := { dst := some 25, op := Op.pick (Operand.tmp 21) (Operand.tmp 24) (Operand.const (Value.bool false)), type := 4, pos := "isa.go:31", after := #[eD 18, eD 21], guard := none }) (v := ?_) rfl (by kernel_rfl) (by kernel_rfl) (by kernel_rfl) (fun _ _ _ h => h) (Or.inl ⟨rfl, ?_⟩) hHeld ?_
  rotate_left
  · (intro w hSw; (try dsimp only at hSw); go_simp; try with_reducible rfl)
  try simp only [Act.put, List.setIfInBounds_toArray, List.set_cons_zero, List.set_cons_succ]
  refine wpAnyH_take (i := 23) (oi := { dst := some 26, op := Op.move (Operand.tmp 25), type := 4, pos := "isa.go:31", after := #[eD 22, eC 21], guard := none }) (v := ?_) rfl (by kernel_rfl) (by kernel_rfl) (by kernel_rfl) (fun _ _ _ h => h) (Or.inl ⟨rfl, ?_⟩) hHeld ?_
  rotate_left
  · (intro w hSw; (try dsimp only at hSw); go_simp; try with_reducible rfl)
  try simp only [Act.put, List.setIfInBounds_toArray, List.set_cons_zero, List.set_cons_succ]
  refine wpAnyH_take (i := 24) (oi := { dst := some 27, op := Op.load 23 (Operand.tmp 1), type := 23, pos := "isa.go:31", after := #[eG 23], guard := some (23, true) }) (v := ?_) rfl (by kernel_rfl) (by kernel_rfl) (by kernel_rfl) (fun _ _ _ h => h) (Or.inl ⟨rfl, ?_⟩) hHeld ?_
  rotate_left
  · (intro w hSw; (try dsimp only at hSw); go_simp; try with_reducible rfl)
  try simp only [Act.put, List.setIfInBounds_toArray, List.set_cons_zero, List.set_cons_succ]
  refine wpAnyH_ready (rs := [25]) (by kernel_rfl) (by simp) ?_
  refine AllReadyH.cons (o := { dst := some 28, op := Op.call { callee := Callee.value (Operand.func 34), args := #[Operand.tmp 27], argTypes := #[23] }, type := 4, pos := "isa.go:31", after := #[eD 24, eC 23, eG 23], guard := some (23, true) }) rfl (fun K hK => ?_) AllReadyH.nil
  go_simp
  go_at_call 34
  refine (HI.out _).mono ?_
  rintro e w6 ⟨rfl, hK6⟩
  replace hK6 := hK5.trans hK6
  clear hK5
  have hK5 := hK6
  clear hK6
  clear hHeld
  refine hK.out _ _ ?_ (fun hHeld => ?_)
  · exact (HX1.out.kept hK5).cells
  clear hK K
  try simp only [Act.put, List.setIfInBounds_toArray, List.set_cons_zero, List.set_cons_succ]
  refine wpAnyH_take (i := 26) (oi := { dst := some 29, op := Op.pick (Operand.tmp 26) (Operand.tmp 28) (Operand.const (Value.bool false)), type := 4, pos := "isa.go:31", after := #[eD 23, eD 25], guard := none }) (v := ?_) rfl (by kernel_rfl) (by kernel_rfl) (by kernel_rfl) (fun _ _ _ h => h) (Or.inl ⟨rfl, ?_⟩) hHeld ?_
  rotate_left
  · (intro w hSw; (try dsimp only at hSw); go_simp; try with_reducible rfl)
  try simp only [Act.put, List.setIfInBounds_toArray, List.set_cons_zero, List.set_cons_succ]
  refine wpAnyH_take (i := 27) (oi := { dst := some 2, op := Op.assign (Operand.tmp 29), type := 4, pos := "isa.go:31", after := #[eD 26, eC 25, eP 0, eP 1, eP 2, eP 3, eP 4, eP 5, eP 6, eP 7, eP 8, eP 9, eP 10, eP 11, eP 12, eP 13, eP 14, eP 15, eP 16, eP 17, eP 18, eP 19, eP 20, eP 21, eP 22, eP 23, eP 24, eP 25, eP 26], guard := none }) (v := ?_) rfl (by kernel_rfl) (by kernel_rfl) (by kernel_rfl) (fun _ _ _ h => h) (Or.inl ⟨rfl, ?_⟩) hHeld ?_
  rotate_left
  · (intro w hSw; (try dsimp only at hSw); go_simp; try with_reducible rfl)
  try simp only [Act.put, List.setIfInBounds_toArray, List.set_cons_zero, List.set_cons_succ]
  refine wpAnyH_done (by kernel_rfl) ?_ _
  go_wp2_with fail
  go_ret
  exact ⟨rfl, HB.out.trans hK5⟩
theorem may_any (k op a b c i : Int) (u : Bool) (w : World) :
    Calls Try.prog 22 #[.agg #[.int .i64 k, .int .i64 op, .int .i64 a, .int .i64 b, .int .i64 c, .int .i64 i, .bool u]] w fun e w' => e = .returned (.bool (I.may ⟨k, op, a, b, c, i, u⟩)) ∧ Kept w w' := by
  rw [← I.may_named]
  have HN := Lib.hid (named_any k op a b c i u)
  have HO := Lib.hid (isOp_any k op a b c i u)
  have HA := Lib.hid (isReg_any a)
  have HRB := Lib.hid (isReg_any b)
  have HC := Lib.hid (isReg_any c)
  have HI := Lib.hid (isNum_any k op a b c i u)
  by_cases hx : (⟨k, op, a, b, c, i, u⟩ : I.Ins) = I.named ⟨k, op, a, b, c, i, u⟩
  · rw [← hx] at HN
    rw [decide_eq_true hx]
    simp only [Bool.true_and] at *
    generalize I.isOp k op = e2 at *
    generalize I.reg a = e3 at *
    generalize I.reg b = e4 at *
    generalize I.reg c = e5 at *
    generalize I.isNum k op i u = e6 at *
    cases e2
    · exact may_2 k op a b c i u w HN HO
    cases e3
    · exact may_3 k op a b c i u w HN HO HA
    cases e4
    · exact may_4 k op a b c i u w HN HO HA HRB
    cases e5
    · exact may_5 k op a b c i u w HN HO HA HRB HC
    cases e6
    · exact may_6 k op a b c i u w HN HO HA HRB HC HI
    · exact may_0 k op a b c i u w HN HO HA HRB HC HI
  · rw [decide_eq_false hx]
    simp only [Bool.false_and]
    exact may_1 k op a b c i _ _ _ _ _ _ u _ w (fun ⟨h1, h2, h3, h4, h5, h6, h7⟩ => hx (I.ins_ext h1 h2 h3 h4 h5 h6 h7)) HN
end Go.Proofs.Ytlmddkciamdldaa
