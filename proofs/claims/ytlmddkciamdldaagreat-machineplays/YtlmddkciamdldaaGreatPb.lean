import Derived.BigQuiet
import Derived.Deep.RegionHeld3
import Derived.Lib.Hide
import Derived.Test.YtlmddkciamdldaaGreatRows
import Derived.WalkKit
import Derived.WalkLawsBesides
import Derived.WalkSpells
import Derived.Test.YtlmddkciamdldaaGreatPa
/-
  The contracts of the function literals and of the loop of package field: which variables they turn.
-/
namespace Go.Proofs.YtlmddkciamdldaaGreat
open Go.RowKit
set_option linter.unusedVariables false
set_option linter.unusedSimpArgs false
set_option maxRecDepth 100000
/-- two variables of a word each, that a function literal has taken -/
structure Two (Bp Bw : Nat) (p x : Int) (w : World) : Prop where
  hp : w.heap[Bp]? = some (.cells #[.int .u32 p] 23 (0, 0))
  hx : w.heap[Bw]? = some (.cells #[.int .u32 x] 23 (0, 0))
  ne : Bw ≠ Bp
theorem Two.store {Bp Bw : Nat} {p x : Int} {w : World} (h : Two Bp Bw p x w) (q : Int) : Two Bp Bw q x (w.setCell ⟨Bp, 0, none⟩ (.int .u32 q)) :=
  ⟨one_setCell h.hp, heap_setCell_keep h.hx h.ne _, h.ne⟩
theorem Two.drew {Bp Bw : Nat} {p x : Int} {w : World} (h : Two Bp Bw p x w) : Two Bp Bw p x w.drew := ⟨h.hp, h.hx, h.ne⟩
set_option maxHeartbeats 400000 in
theorem get1_any (i pl p x : Int) (B Bp Bw : Nat) (hi : 0 ≤ i) (hi' : i < 32) (hp0 : 0 ≤ pl) (hB : B ≤ Bp) (w : World) (h : Two Bp Bw p x w) :
    Calls Tryz.prog 90 #[.int .i64 i, .int .u64 pl, .pointer (some ⟨Bp, 0, none⟩), .pointer (some ⟨Bw, 0, none⟩)] w fun e w' =>
      e = .returned (.tuple #[]) ∧ Two Bp Bw (F.gval p x i pl) x w' ∧ KeptB B w w' := by
  have c1 := cell_of_one h.hp
  have c2 := cell_of_one h.hx
  have f1 := free_of_one h.hp
  go_enter Tryz.func90, Tryz.ntmps90
  go_region
  go_end0
  exact ⟨rfl, (h.store _).drew, ((KeptB.refl B w).setCell hB _).drew⟩
set_option maxHeartbeats 400000 in
theorem set1_any (i pl p x : Int) (B Bp Bw : Nat) (hi : 0 ≤ i) (hi' : i < 32) (hp0 : 0 ≤ pl) (hB : B ≤ Bp) (w : World) (h : Two Bp Bw p x w) :
    Calls Tryz.prog 105 #[.int .i64 i, .int .u64 pl, .pointer (some ⟨Bp, 0, none⟩), .pointer (some ⟨Bw, 0, none⟩)] w fun e w' =>
      e = .returned (.tuple #[]) ∧ Two Bp Bw (F.sval p x i pl) x w' ∧ KeptB B w w' := by
  have c1 := cell_of_one h.hp
  have c2 := cell_of_one h.hx
  have f1 := free_of_one h.hp
  go_enter Tryz.func105, Tryz.ntmps105
  go_region
  go_end0
  exact ⟨rfl, (h.store _).drew, ((KeptB.refl B w).setCell hB _).drew⟩
set_option maxHeartbeats 1000000 in
theorem eachGet_any (a n x : Int) (B Bp Bw : Nat) (ha0 : -9223372036854775808 ≤ a) (ha1 : a ≤ 9223372036854775807) (hn1 : n ≤ 9223372036854775807) (hx0 : 0 ≤ x) (hx1 : x < 4294967296) (hB : B ≤ Bp) (w : World) (h : Two Bp Bw 0 x w) :
    Calls Tryz.prog 89 #[.int .i64 a, .int .i64 n, .func (.func 90) #[] #[.pointer (some ⟨Bp, 0, none⟩), .pointer (some ⟨Bw, 0, none⟩)]] w fun e w' =>
      e = .returned (.tuple #[]) ∧ Two Bp Bw (F.get x a n) x w' ∧ KeptB B w w' := by
  have hmf : ∀ (fn : Fn) (first cap : Array Value) (w : World), (Instr.makeFunc fn first cap).run Tryz.prog w = .ok (.func fn first cap) w := fun _ _ _ _ => rfl
  by_cases hn : n < 1
  · have H0 := Lib.hid (show Two Bp Bw (F.get x a n) x w from by rw [F.get, F.get_end x.toNat a n 0 32 (by omega) (by omega), F.get_start x.toNat a n 0 (by omega)]; exact h)
    go_enter Tryz.func89, Tryz.ntmps89
    go_wp2
    (try simp only [Exit.inBlock, Exit.then]); refine bodyPost_ret (results_none rfl _ _ _) rfl ?_
    exact ⟨rfl, H0.out, KeptB.refl _ _⟩
  · have hn' : 1 ≤ n := by omega
    rcases (show a < 0 ∨ 0 ≤ a by omega) with hneg | hneg
    · have H0 := Lib.hid (show Two Bp Bw (F.getP x.toNat a n 0 : Nat) x w from by rw [F.get_start x.toNat a n 0 (by omega)]; exact h)
      clear h hn
      go_enter Tryz.func89, Tryz.ntmps89
      go_wp2_with fail
      go_loopw [6] (fun i wr => ∃ k : Int, 0 ≤ k ∧ a ≤ k ∧ (k ≤ 32 ∨ k ≤ a) ∧ i = .int .i64 k ∧ Two Bp Bw (F.getP x.toNat a n k : Nat) x wr ∧ KeptB B w wr) (fun i _ => (32 - intOf i).toNat)
      case atStart => exact ⟨_, by omega, by omega, by omega, rfl, H0.out, KeptB.refl _ _⟩
      case round =>
        obtain ⟨k, hk0, hka, hk1, rfl, hT, hK⟩ := hrel
        clear H0
        by_cases hlt : k < 32
        · by_cases hin : k - a < n
          · have Hs := Lib.hid (F.get_stepI x a n k hx0 hx1 hk0 hlt hka hin)
            (try have hpl := F.place_neg k a hneg ha0 hk0 hlt)
            go_wp2_with fail
            refine (get1_any k (k - a) _ x B Bp Bw hk0 hlt (by omega) hB _ hT).mono ?_
            rintro e w2 ⟨rfl, hT2, hK2⟩
            rw [Hs.out] at hT2
            (try clear hpl)
            go_wp2_with fail
            go_roundw
            case rel => exact ⟨k + 1, by omega, by omega, by omega, rfl, hT2, hK.trans hK2⟩
            case measure => simp [intOf]; omega
          · have He := Lib.hid (show F.get x a n = (F.getP x.toNat a n k : Nat) from by rw [F.get, F.get_end x.toNat a n k 32 (by omega) (by omega)])
            (try have hpl := F.place_neg k a hneg ha0 hk0 hlt)
            go_wp2_with fail
            (try simp only [Exit.inBlock, Exit.then]); refine bodyPost_ret (results_none rfl _ _ _) rfl ?_
            exact ⟨rfl, by rw [He.out]; exact hT, hK⟩
        · have He := Lib.hid (show F.get x a n = (F.getP x.toNat a n k : Nat) from by rw [F.get]; rcases (show k = 32 ∨ k ≤ a by omega) with e | e; (rw [e]); (rw [F.get_end x.toNat a n 32 k (by omega) (by omega)]))
          go_wp2_with fail
          go_end0
          exact ⟨rfl, by rw [He.out]; exact hT, hK⟩
    · have H0 := Lib.hid (show Two Bp Bw (F.getP x.toNat a n a : Nat) x w from by rw [F.get_start x.toNat a n a (by omega)]; exact h)
      clear h hn
      go_enter Tryz.func89, Tryz.ntmps89
      go_wp2_with fail
      go_loopw [6] (fun i wr => ∃ k : Int, 0 ≤ k ∧ a ≤ k ∧ (k ≤ 32 ∨ k ≤ a) ∧ i = .int .i64 k ∧ Two Bp Bw (F.getP x.toNat a n k : Nat) x wr ∧ KeptB B w wr) (fun i _ => (32 - intOf i).toNat)
      case atStart => exact ⟨_, by omega, by omega, by omega, rfl, H0.out, KeptB.refl _ _⟩
      case round =>
        obtain ⟨k, hk0, hka, hk1, rfl, hT, hK⟩ := hrel
        clear H0
        by_cases hlt : k < 32
        · by_cases hin : k - a < n
          · have Hs := Lib.hid (F.get_stepI x a n k hx0 hx1 hk0 hlt hka hin)
            (try have hpl := F.place_neg k a hneg ha0 hk0 hlt)
            go_wp2_with fail
            refine (get1_any k (k - a) _ x B Bp Bw hk0 hlt (by omega) hB _ hT).mono ?_
            rintro e w2 ⟨rfl, hT2, hK2⟩
            rw [Hs.out] at hT2
            (try clear hpl)
            go_wp2_with fail
            go_roundw
            case rel => exact ⟨k + 1, by omega, by omega, by omega, rfl, hT2, hK.trans hK2⟩
            case measure => simp [intOf]; omega
          · have He := Lib.hid (show F.get x a n = (F.getP x.toNat a n k : Nat) from by rw [F.get, F.get_end x.toNat a n k 32 (by omega) (by omega)])
            (try have hpl := F.place_neg k a hneg ha0 hk0 hlt)
            go_wp2_with fail
            (try simp only [Exit.inBlock, Exit.then]); refine bodyPost_ret (results_none rfl _ _ _) rfl ?_
            exact ⟨rfl, by rw [He.out]; exact hT, hK⟩
        · have He := Lib.hid (show F.get x a n = (F.getP x.toNat a n k : Nat) from by rw [F.get]; rcases (show k = 32 ∨ k ≤ a by omega) with e | e; (rw [e]); (rw [F.get_end x.toNat a n 32 k (by omega) (by omega)]))
          go_wp2_with fail
          go_end0
          exact ⟨rfl, by rw [He.out]; exact hT, hK⟩
set_option maxHeartbeats 1000000 in
theorem eachSet_any (a n y x : Int) (B Bp Bw : Nat) (ha0 : -9223372036854775808 ≤ a) (ha1 : a ≤ 9223372036854775807) (hn1 : n ≤ 9223372036854775807) (hy0 : 0 ≤ y) (hy1 : y < 4294967296) (hx0 : 0 ≤ x) (hx1 : x < 4294967296) (hB : B ≤ Bp) (w : World) (h : Two Bp Bw y x w) :
    Calls Tryz.prog 89 #[.int .i64 a, .int .i64 n, .func (.func 105) #[] #[.pointer (some ⟨Bp, 0, none⟩), .pointer (some ⟨Bw, 0, none⟩)]] w fun e w' =>
      e = .returned (.tuple #[]) ∧ Two Bp Bw (F.set y a n x) x w' ∧ KeptB B w w' := by
  have hmf : ∀ (fn : Fn) (first cap : Array Value) (w : World), (Instr.makeFunc fn first cap).run Tryz.prog w = .ok (.func fn first cap) w := fun _ _ _ _ => rfl
  by_cases hn : n < 1
  · have H0 := Lib.hid (show Two Bp Bw (F.set y a n x) x w from by rw [F.set, F.set_end y.toNat x.toNat a n 0 32 (by omega) (by omega), F.set_start y.toNat x.toNat a n 0 (by omega) (by omega), Int.toNat_of_nonneg hy0]; exact h)
    go_enter Tryz.func89, Tryz.ntmps89
    go_wp2
    (try simp only [Exit.inBlock, Exit.then]); refine bodyPost_ret (results_none rfl _ _ _) rfl ?_
    exact ⟨rfl, H0.out, KeptB.refl _ _⟩
  · have hn' : 1 ≤ n := by omega
    rcases (show a < 0 ∨ 0 ≤ a by omega) with hneg | hneg
    · have H0 := Lib.hid (show Two Bp Bw (F.setP y.toNat x.toNat a n 0 : Nat) x w from by rw [F.set_start y.toNat x.toNat a n 0 (by omega) (by omega), Int.toNat_of_nonneg hy0]; exact h)
      clear h hn
      go_enter Tryz.func89, Tryz.ntmps89
      go_wp2_with fail
      go_loopw [6] (fun i wr => ∃ k : Int, 0 ≤ k ∧ a ≤ k ∧ (k ≤ 32 ∨ k ≤ a) ∧ i = .int .i64 k ∧ Two Bp Bw (F.setP y.toNat x.toNat a n k : Nat) x wr ∧ KeptB B w wr) (fun i _ => (32 - intOf i).toNat)
      case atStart => exact ⟨_, by omega, by omega, by omega, rfl, H0.out, KeptB.refl _ _⟩
      case round =>
        obtain ⟨k, hk0, hka, hk1, rfl, hT, hK⟩ := hrel
        clear H0
        by_cases hlt : k < 32
        · by_cases hin : k - a < n
          · have Hs := Lib.hid (F.set_stepI y x a n k hx0 hx1 hk0 hlt hka hin)
            (try have hpl := F.place_neg k a hneg ha0 hk0 hlt)
            go_wp2_with fail
            refine (set1_any k (k - a) _ x B Bp Bw hk0 hlt (by omega) hB _ hT).mono ?_
            rintro e w2 ⟨rfl, hT2, hK2⟩
            rw [Hs.out] at hT2
            (try clear hpl)
            go_wp2_with fail
            go_roundw
            case rel => exact ⟨k + 1, by omega, by omega, by omega, rfl, hT2, hK.trans hK2⟩
            case measure => simp [intOf]; omega
          · have He := Lib.hid (show F.set y a n x = (F.setP y.toNat x.toNat a n k : Nat) from by rw [F.set, F.set_end y.toNat x.toNat a n k 32 (by omega) (by omega)])
            (try have hpl := F.place_neg k a hneg ha0 hk0 hlt)
            go_wp2_with fail
            (try simp only [Exit.inBlock, Exit.then]); refine bodyPost_ret (results_none rfl _ _ _) rfl ?_
            exact ⟨rfl, by rw [He.out]; exact hT, hK⟩
        · have He := Lib.hid (show F.set y a n x = (F.setP y.toNat x.toNat a n k : Nat) from by rw [F.set]; rcases (show k = 32 ∨ k ≤ a by omega) with e | e; (rw [e]); (rw [F.set_end y.toNat x.toNat a n 32 k (by omega) (by omega)]))
          go_wp2_with fail
          go_end0
          exact ⟨rfl, by rw [He.out]; exact hT, hK⟩
    · have H0 := Lib.hid (show Two Bp Bw (F.setP y.toNat x.toNat a n a : Nat) x w from by rw [F.set_start y.toNat x.toNat a n a (by omega) (by omega), Int.toNat_of_nonneg hy0]; exact h)
      clear h hn
      go_enter Tryz.func89, Tryz.ntmps89
      go_wp2_with fail
      go_loopw [6] (fun i wr => ∃ k : Int, 0 ≤ k ∧ a ≤ k ∧ (k ≤ 32 ∨ k ≤ a) ∧ i = .int .i64 k ∧ Two Bp Bw (F.setP y.toNat x.toNat a n k : Nat) x wr ∧ KeptB B w wr) (fun i _ => (32 - intOf i).toNat)
      case atStart => exact ⟨_, by omega, by omega, by omega, rfl, H0.out, KeptB.refl _ _⟩
      case round =>
        obtain ⟨k, hk0, hka, hk1, rfl, hT, hK⟩ := hrel
        clear H0
        by_cases hlt : k < 32
        · by_cases hin : k - a < n
          · have Hs := Lib.hid (F.set_stepI y x a n k hx0 hx1 hk0 hlt hka hin)
            (try have hpl := F.place_neg k a hneg ha0 hk0 hlt)
            go_wp2_with fail
            refine (set1_any k (k - a) _ x B Bp Bw hk0 hlt (by omega) hB _ hT).mono ?_
            rintro e w2 ⟨rfl, hT2, hK2⟩
            rw [Hs.out] at hT2
            (try clear hpl)
            go_wp2_with fail
            go_roundw
            case rel => exact ⟨k + 1, by omega, by omega, by omega, rfl, hT2, hK.trans hK2⟩
            case measure => simp [intOf]; omega
          · have He := Lib.hid (show F.set y a n x = (F.setP y.toNat x.toNat a n k : Nat) from by rw [F.set, F.set_end y.toNat x.toNat a n k 32 (by omega) (by omega)])
            (try have hpl := F.place_neg k a hneg ha0 hk0 hlt)
            go_wp2_with fail
            (try simp only [Exit.inBlock, Exit.then]); refine bodyPost_ret (results_none rfl _ _ _) rfl ?_
            exact ⟨rfl, by rw [He.out]; exact hT, hK⟩
        · have He := Lib.hid (show F.set y a n x = (F.setP y.toNat x.toNat a n k : Nat) from by rw [F.set]; rcases (show k = 32 ∨ k ≤ a by omega) with e | e; (rw [e]); (rw [F.set_end y.toNat x.toNat a n 32 k (by omega) (by omega)]))
          go_wp2_with fail
          go_end0
          exact ⟨rfl, by rw [He.out]; exact hT, hK⟩
end Go.Proofs.YtlmddkciamdldaaGreat

/-
  The contracts of package field, and of the document's own answers for it.
-/
namespace Go.Proofs.YtlmddkciamdldaaGreat
open Go.RowKit
set_option linter.unusedVariables false
set_option linter.unusedSimpArgs false
set_option maxRecDepth 100000
set_option maxHeartbeats 400000 in
theorem get_any (x a n : Int) (hx0 : 0 ≤ x) (hx1 : x < 4294967296) (ha0 : -9223372036854775808 ≤ a) (ha1 : a ≤ 9223372036854775807) (hn1 : n ≤ 9223372036854775807) (w : World) :
    Calls Tryz.prog 72 #[.int .u32 x, .int .i64 a, .int .i64 n] w fun e w' => e = .returned (.int .u32 (F.get x a n)) ∧ Kept w w' := by
  have hmf : ∀ (fn : Fn) (first cap : Array Value) (w : World), (Instr.makeFunc fn first cap).run Tryz.prog w = .ok (.func fn first cap) w := fun _ _ _ _ => rfl
  have T0 := Lib.hid (show Two (w.heap.size + 1) w.heap.size 0 x ((w.alloc (.cells #[.int .u32 x] 23)).alloc (.cells #[.int .u32 0] 23)) from
    ⟨by have := heap_alloc_last (w.alloc (.cells #[.int .u32 x] 23)) (.cells #[.int .u32 0] 23); simpa using this, heap_alloc_keep (heap_alloc_last w _) _, by omega⟩)
  have K0 := Lib.hid ((((Kept.refl w).alloc #[.int .u32 x] 23).alloc #[.int .u32 0] 23))
  go_enter Tryz.func72, Tryz.ntmps72
  go_wp2_with fail
  refine (eachGet_any a n x w.heap.size _ _ ha0 ha1 hn1 hx0 hx1 (by omega) _ T0.out).mono ?_
  rintro e w2 ⟨rfl, hT, hK⟩
  have K2 := Lib.hid (K0.out.transB hK (Nat.le_refl _))
  have c1 := cell_of_one hT.hp
  clear hT hK K0 T0
  go_wp2_with fail
  go_ret
  exact ⟨rfl, K2.out⟩
set_option maxHeartbeats 400000 in
theorem set_any (y a n x : Int) (hy0 : 0 ≤ y) (hy1 : y < 4294967296) (hx0 : 0 ≤ x) (hx1 : x < 4294967296) (ha0 : -9223372036854775808 ≤ a) (ha1 : a ≤ 9223372036854775807) (hn1 : n ≤ 9223372036854775807) (w : World) :
    Calls Tryz.prog 91 #[.int .u32 y, .int .i64 a, .int .i64 n, .int .u32 x] w fun e w' => e = .returned (.int .u32 (F.set y a n x)) ∧ Kept w w' := by
  have hmf : ∀ (fn : Fn) (first cap : Array Value) (w : World), (Instr.makeFunc fn first cap).run Tryz.prog w = .ok (.func fn first cap) w := fun _ _ _ _ => rfl
  have T0 := Lib.hid (show Two w.heap.size (w.heap.size + 1) y x ((w.alloc (.cells #[.int .u32 y] 23)).alloc (.cells #[.int .u32 x] 23)) from
    ⟨heap_alloc_keep (heap_alloc_last w _) _, by have := heap_alloc_last (w.alloc (.cells #[.int .u32 y] 23)) (.cells #[.int .u32 x] 23); simpa using this, by omega⟩)
  have K0 := Lib.hid ((((Kept.refl w).alloc #[.int .u32 y] 23).alloc #[.int .u32 x] 23))
  go_enter Tryz.func91, Tryz.ntmps91
  go_wp2_with fail
  refine (eachSet_any a n y x w.heap.size _ _ ha0 ha1 hn1 hy0 hy1 hx0 hx1 (by omega) _ T0.out).mono ?_
  rintro e w2 ⟨rfl, hT, hK⟩
  have K2 := Lib.hid (K0.out.transB hK (Nat.le_refl _))
  have c1 := cell_of_one hT.hp
  clear hT hK K0 T0
  go_wp2_with fail
  go_ret
  exact ⟨rfl, K2.out⟩
set_option maxHeartbeats 400000 in
theorem bounded_any (n : Int) (w : World) :
    Calls Tryz.prog 92 #[.int .i64 n] w fun e w' => e = .returned (.int .i64 (F.clamp n)) ∧ w = w' := by
  rcases (show n < 1 ∨ 32 < n ∨ (1 ≤ n ∧ n ≤ 32) by omega) with h | h | ⟨h, h'⟩
  · have E := Lib.hid (F.clamp_1 n h)
    go_enter Tryz.func92, Tryz.ntmps92
    go_wp2
    go_ret
    exact r1 E.out.symm
  · have E := Lib.hid (F.clamp_32 n h)
    go_enter Tryz.func92, Tryz.ntmps92
    go_wp2
    go_ret
    exact r1 E.out.symm
  · have E := Lib.hid (F.clamp_in n h h')
    go_enter Tryz.func92, Tryz.ntmps92
    go_wp2
    go_ret
    exact r1 E.out.symm
set_option maxHeartbeats 400000 in
theorem fsigned_any (x n : Int) (hx0 : 0 ≤ x) (hx1 : x < 4294967296) (w : World) :
    Calls Tryz.prog 77 #[.int .u32 x, .int .i64 n] w fun e w' => e = .returned (.int .i64 (F.sgnd x (F.clamp n))) ∧ w = w' := by
  have k0 := F.clamp_lo n
  have k1 := F.clamp_hi n
  have C := Lib.hid (fun w => bounded_any n w)
  generalize F.clamp n = k at *
  go_enter Tryz.func77, Tryz.ntmps77
  go_wp2_with fail
  refine (C.out _).mono ?_; rintro e w' ⟨rfl, rfl⟩
  go_wp2_with fail
  go_ret
  exact r1 (F.sgnd_shift x k hx0 hx1 k0 k1)
theorem F.fit1 (P : Int) (h : 1 ≤ P) (h' : P ≤ 2147483648) : wrap64 (-wrap64 P) = -P := by unfold wrap64; omega
theorem F.fit2 (P : Int) (h : 1 ≤ P) (h' : P ≤ 2147483648) : wrap64 P = P := by unfold wrap64; omega
theorem F.fit3 (P : Int) (h : 1 ≤ P) (h' : P ≤ 2147483648) : wrap64 (-P) = -P := by unfold wrap64; omega
set_option maxHeartbeats 400000 in
theorem fits_any (v n : Int) (w : World) :
    Calls Tryz.prog 108 #[.int .i64 v, .int .i64 n] w fun e w' => e = .returned (.bool (F.fitsK v (F.clamp n))) ∧ w = w' := by
  have k0 := F.clamp_lo n
  have k1 := F.clamp_hi n
  have C := Lib.hid (fun w => bounded_any n w)
  generalize F.clamp n = k at *
  have E1 := Lib.hid (F.fit1 _ (F.half_lo k) (F.half_hi k k1))
  have E2 := Lib.hid (F.fit2 _ (F.half_lo k) (F.half_hi k k1))
  go_enter Tryz.func108, Tryz.ntmps108
  go_wp2_with fail
  refine (C.out _).mono ?_; rintro e w' ⟨rfl, rfl⟩
  go_wp2_with fail
  all_goals go_ret
  · rename_i h
    rw [E1.out] at h
    exact r1b (by rw [E2.out]; unfold F.fitsK; rw [decide_eq_true h]; rfl)
  · rename_i h
    rw [E1.out] at h
    exact r1b (by unfold F.fitsK; rw [decide_eq_false (by omega)]; rfl)
set_option maxHeartbeats 400000 in
theorem rsgnd_any (x n : Int) (hx0 : 0 ≤ x) (hx1 : x < 4294967296) (w : World) :
    Calls Tryz.prog 67 #[.int .u32 x, .int .i64 n] w fun e w' => e = .returned (.int .i64 (F.sgnd x (F.clamp n))) ∧ w = w' := by
  rcases (show n < 1 ∨ 32 < n ∨ (1 ≤ n ∧ n ≤ 32) by omega) with h | h | ⟨h, h'⟩
  · have E := Lib.hid (F.clamp_1 n h)
    go_enter Tryz.func67, Tryz.ntmps67
    go_wp2
    all_goals go_ret
    all_goals exact r1 (by rw [E.out]; unfold F.sgnd; simp only [Int.reduceToNat, Int.reducePow, Nat.reduceSub]; split <;> omega)
  · have E := Lib.hid (F.clamp_32 n h)
    go_enter Tryz.func67, Tryz.ntmps67
    go_wp2
    all_goals go_ret
    all_goals exact r1 (by rw [E.out]; unfold F.sgnd; simp only [Int.reduceToNat, Int.reducePow, Nat.reduceSub]; split <;> omega)
  · have E := Lib.hid (F.clamp_in n h h')
    have hw1 : wrap64 (2 ^ n.toNat) = 2 ^ n.toNat := by
      have := F.pow_half n h; have := F.half_lo n; have := F.half_hi n h'; unfold wrap64; omega
    have hw2 : wrap64 (2 ^ (n.toNat - 1)) = 2 ^ (n.toNat - 1) := F.fit2 _ (F.half_lo n) (F.half_hi n h')
    obtain ⟨Q, hQ⟩ : ∃ Q : Int, 2 ^ n.toNat = Q := ⟨_, rfl⟩
    obtain ⟨P, hP⟩ : ∃ Q : Int, 2 ^ (n.toNat - 1) = Q := ⟨_, rfl⟩
    have p0 : 1 ≤ P := hP ▸ F.half_lo n
    have p1 : P ≤ 2147483648 := hP ▸ F.half_hi n h'
    have q0 : Q ≤ 2 * P := by have := F.pow_half n h; omega
    have q1 : 2 * P ≤ Q := by have := F.pow_half n h; omega
    have m0 : 0 ≤ x % Q := Int.emod_nonneg _ (by omega)
    have m1 : x % Q < Q := Int.emod_lt_of_pos _ (by omega)
    have S : F.sgnd x n = if x % Q < P then x % Q else x % Q - Q := by unfold F.sgnd; rw [hQ, hP]
    have HS := Lib.hid S
    have z : (Q == 0) = false := by rw [beq_eq_false_iff_ne]; clear hw1 hw2 HS S hQ hP; omega
    replace hw1 : wrap64 (2 ^ n.toNat) = Q := hw1.trans hQ
    replace hw2 : wrap64 (2 ^ (n.toNat - 1)) = P := hw2.trans hP
    clear S hQ hP
    go_enter Tryz.func67, Tryz.ntmps67
    go_wp2
    all_goals go_ret
    all_goals clear hw1 hw2
    · rename_i g
      exact r1 (by rw [E.out, HS.out, if_neg (by omega)])
    · rename_i g
      exact r1 (by rw [E.out, HS.out, if_pos (by omega)])
set_option maxHeartbeats 400000 in
theorem rfits_any (v n : Int) (w : World) :
    Calls Tryz.prog 60 #[.int .i64 v, .int .i64 n] w fun e w' => e = .returned (.bool (F.fitsK v (F.clamp n))) ∧ w = w' := by
  rcases (show n < 1 ∨ 32 < n ∨ (1 ≤ n ∧ n ≤ 32) by omega) with h | h | ⟨h, h'⟩
  · have E := Lib.hid (F.clamp_1 n h)
    go_enter Tryz.func60, Tryz.ntmps60
    go_wp2
    all_goals go_ret
    all_goals exact r1b (by rw [E.out]; unfold F.fitsK; simp only [wrap64, Int.reduceToNat, Int.reducePow, Nat.reduceSub] at *; simp; omega)
  · have E := Lib.hid (F.clamp_32 n h)
    go_enter Tryz.func60, Tryz.ntmps60
    go_wp2
    all_goals go_ret
    all_goals exact r1b (by rw [E.out]; unfold F.fitsK; simp only [wrap64, Int.reduceToNat, Int.reducePow, Nat.reduceSub] at *; simp; omega)
  · have E := Lib.hid (F.clamp_in n h h')
    have E1 := Lib.hid (F.fit3 _ (F.half_lo n) (F.half_hi n h'))
    have E2 := Lib.hid (F.fit2 _ (F.half_lo n) (F.half_hi n h'))
    go_enter Tryz.func60, Tryz.ntmps60
    go_wp2
    all_goals go_ret
    · rename_i g
      rw [E1.out] at g
      exact r1b (by rw [E2.out, E.out]; unfold F.fitsK; rw [decide_eq_true g]; rfl)
    · rename_i g
      rw [E1.out] at g
      exact r1b (by rw [E.out]; unfold F.fitsK; rw [decide_eq_false (by omega)]; rfl)
end Go.Proofs.YtlmddkciamdldaaGreat

/-
  The contracts of the small functions of package isa, and of the document's own answers for it.
-/
namespace Go.Proofs.YtlmddkciamdldaaGreat
open Go.RowKit
set_option linter.unusedVariables false
set_option linter.unusedSimpArgs false
set_option maxRecDepth 100000
theorem I.reg_no1 (n : Int) (h : n < 0) : I.reg n = false := by unfold I.reg; rw [decide_eq_false (by omega)]; rfl
theorem I.reg_at (n : Int) (h : 0 ≤ n) : I.reg n = decide (n ≤ 15) := by unfold I.reg; rw [decide_eq_true h]; rfl
theorem isReg_any (n : Int) (w : World) :
    Calls Tryz.prog 95 #[.int .i64 n] w fun e w' => e = .returned (.bool (I.reg n)) ∧ w = w' := by
  go_enter Tryz.func95, Tryz.ntmps95
  go_wp2
  all_goals go_ret
  · rename_i h; exact r1b (I.reg_at n h).symm
  · rename_i h; exact r1b (I.reg_no1 n h).symm
theorem rreg_any (n : Int) (w : World) :
    Calls Tryz.prog 59 #[.int .i64 n] w fun e w' => e = .returned (.bool (I.reg n)) ∧ w = w' := by
  go_enter Tryz.func59, Tryz.ntmps59
  go_wp2
  all_goals go_ret
  · rename_i h; exact r1b (I.reg_at n h).symm
  · rename_i h; exact r1b (I.reg_no1 n h).symm
theorem bit_any (u : Bool) (w : World) :
    Calls Tryz.prog 98 #[.bool u] w fun e w' => e = .returned (.int .i64 (I.bit u)) ∧ w = w' := by
  cases u
  all_goals
    go_enter Tryz.func98, Tryz.ntmps98
    go_wp2
    go_ret
    exact r1 rfl
theorem one_any (u : Bool) (w : World) :
    Calls Tryz.prog 42 #[.bool u] w fun e w' => e = .returned (.int .u32 (I.bit u)) ∧ w = w' := by
  cases u
  all_goals
    go_enter Tryz.func42, Tryz.ntmps42
    go_wp2
    go_ret
    exact r1 rfl
theorem I.nb_1 (op b : Int) (h : (op == 0) = false) : I.nb op b = b := by unfold I.nb; rw [if_neg (by simpa using h)]
theorem namedB_any (k op a b c i : Int) (u : Bool) (w : World) :
    Calls Tryz.prog 106 #[.agg #[.int .i64 k, .int .i64 op, .int .i64 a, .int .i64 b, .int .i64 c, .int .i64 i, .bool u]] w fun e w' => e = .returned (.int .i64 (I.nb op b)) ∧ Kept w w' := by
  by_cases h0 : op = 0
  · subst h0
    go_enter Tryz.func106, Tryz.ntmps106
    go_wp2
    go_ret
    exact r1k rfl ((Kept.refl w).alloc _ _)
  · have hz : (op == 0) = false := by simpa using h0
    have E := Lib.hid (I.nb_1 op b hz)
    go_enter Tryz.func106, Tryz.ntmps106
    go_wp2
    go_ret
    exact r1k E.out.symm ((Kept.refl w).alloc _ _)
theorem I.carry_1 (op : Int) (h : ¬ op = 8) (h' : ¬ op = 9) : (op == 8 || op == 9 || op == 10) = I.carry op := by
  rw [Bool.eq_iff_iff]; simp [I.carry]; omega
theorem hasCarry_any (op : Int) (w : World) :
    Calls Tryz.prog 107 #[.int .i64 op] w fun e w' => e = .returned (.bool (I.carry op)) ∧ w = w' := by
  go_enter Tryz.func107, Tryz.ntmps107
  go_wp2
  all_goals go_ret
  · rename_i h; subst h; exact r1b rfl
  · rename_i h' h; subst h; exact r1b rfl
  · rename_i h h'; exact r1b (I.carry_1 op h h')
theorem I.kinds (k : Int) : k = 1 ∨ k = 2 ∨ k = 3 ∨ k = 4 ∨ k = 5 ∨ k = 6 ∨ k = 7 ∨ ((k == 1) = false ∧ (k == 2) = false ∧ (k == 3) = false ∧ (k == 4) = false ∧ (k == 5) = false ∧ (k == 6) = false ∧ (k == 7) = false) := by
  simp only [beq_eq_false_iff_ne]; omega
theorem isOp_any (k op a b c i : Int) (u : Bool) (w : World) :
    Calls Tryz.prog 94 #[.agg #[.int .i64 k, .int .i64 op, .int .i64 a, .int .i64 b, .int .i64 c, .int .i64 i, .bool u]] w fun e w' => e = .returned (.bool (I.isOp k op)) ∧ Kept w w' := by
  rcases I.kinds k with rfl | rfl | rfl | rfl | rfl | rfl | rfl | ⟨h1, h2, h3, h4, h5, h6, h7⟩
  all_goals
    go_enter Tryz.func94, Tryz.ntmps94
    go_wp2
  all_goals go_ret
  all_goals refine r1bk ?_ ((Kept.refl w).alloc _ _)
  all_goals (try simp only [beq_eq_false_iff_ne] at *)
  all_goals (unfold I.isOp; simp [*])
  all_goals omega
theorem isNum_any (k op a b c i : Int) (u : Bool) (w : World) :
    Calls Tryz.prog 96 #[.agg #[.int .i64 k, .int .i64 op, .int .i64 a, .int .i64 b, .int .i64 c, .int .i64 i, .bool u]] w fun e w' => e = .returned (.bool (I.isNum k op i u)) ∧ Kept w w' := by
  have F17 := Lib.hid (fun w => show Calls Tryz.prog 108 #[.int .i64 i, .int .i64 17] w fun e w' => e = .returned (.bool (F.fitsK i 17)) ∧ w = w' from fits_any i 17 w)
  have F20 := Lib.hid (fun w => show Calls Tryz.prog 108 #[.int .i64 i, .int .i64 20] w fun e w' => e = .returned (.bool (F.fitsK i 20)) ∧ w = w' from fits_any i 20 w)
  have F24 := Lib.hid (fun w => show Calls Tryz.prog 108 #[.int .i64 i, .int .i64 24] w fun e w' => e = .returned (.bool (F.fitsK i 24)) ∧ w = w' from fits_any i 24 w)
  rcases I.kinds k with rfl | rfl | rfl | rfl | rfl | rfl | rfl | ⟨h1, h2, h3, h4, h5, h6, h7⟩
  · go_enter Tryz.func96, Tryz.ntmps96
    go_wp2
    go_ret
    exact r1bk rfl ((Kept.refl w).alloc _ _)
  · have E : I.isNum 2 op i u = (F.fitsK i 17 && !(op == 0 && u && decide (i < 0))) := rfl
    have HE := Lib.hid E
    clear E
    generalize F.fitsK i 17 = f at *
    generalize I.isNum 2 op i u = r at *
    cases f <;> cases u
    all_goals
      go_enter Tryz.func96, Tryz.ntmps96
      go_wp2_with fail
    all_goals (refine (F17.out _).mono ?_; rintro e w' ⟨rfl, rfl⟩)
    all_goals go_wp2_with fail
    all_goals go_ret
    all_goals refine r1bk ?_ ((Kept.refl w).alloc _ _)
    all_goals (rw [HE.out]; simp [*])
  · go_enter Tryz.func96, Tryz.ntmps96
    go_wp2
    go_ret
    exact r1bk rfl ((Kept.refl w).alloc _ _)
  · go_enter Tryz.func96, Tryz.ntmps96
    go_wp2
    go_ret
    exact r1bk rfl ((Kept.refl w).alloc _ _)
  · go_enter Tryz.func96, Tryz.ntmps96
    go_wp2_with fail
    refine (F20.out _).mono ?_; rintro e w' ⟨rfl, rfl⟩
    go_wp2_with fail
    go_ret
    exact r1bk rfl ((Kept.refl w).alloc _ _)
  · go_enter Tryz.func96, Tryz.ntmps96
    go_wp2
    go_ret
    exact r1bk rfl ((Kept.refl w).alloc _ _)
  · go_enter Tryz.func96, Tryz.ntmps96
    go_wp2_with fail
    refine (F24.out _).mono ?_; rintro e w' ⟨rfl, rfl⟩
    go_wp2_with fail
    go_ret
    exact r1bk rfl ((Kept.refl w).alloc _ _)
  · have E : I.isNum k op i u = (i == 0) := by unfold I.isNum; rw [if_neg (by simpa using h2), if_neg (by simpa using h5), if_neg (by simpa using h7)]
    have HE := Lib.hid E
    clear E
    go_enter Tryz.func96, Tryz.ntmps96
    go_wp2
    go_ret
    exact r1bk HE.out.symm ((Kept.refl w).alloc _ _)
end Go.Proofs.YtlmddkciamdldaaGreat

/-
  An instruction in memory; the contracts of named and May.
-/
namespace Go.Proofs.YtlmddkciamdldaaGreat
open Go.RowKit
set_option linter.unusedVariables false
set_option linter.unusedSimpArgs false
set_option maxRecDepth 100000
/-- an instruction lies in the block B -/
def Box (B : Nat) (k op a b c i : Int) (u : Bool) (w : World) : Prop := w.heap[B]? = some (.cells #[.int .i64 k, .int .i64 op, .int .i64 a, .int .i64 b, .int .i64 c, .int .i64 i, .bool u] 57 (0, 0))
theorem Box.cells {B : Nat} {k op a b c i : Int} {u : Bool} {w : World} (h : Box B k op a b c i u w) : w.cell? ⟨B, 0, none⟩ = some (.int .i64 k) ∧ w.cell? ⟨B, 1, none⟩ = some (.int .i64 op) ∧ w.cell? ⟨B, 2, none⟩ = some (.int .i64 a) ∧ w.cell? ⟨B, 3, none⟩ = some (.int .i64 b) ∧ w.cell? ⟨B, 4, none⟩ = some (.int .i64 c) ∧ w.cell? ⟨B, 5, none⟩ = some (.int .i64 i) ∧ w.cell? ⟨B, 6, none⟩ = some (.bool u) := by
  unfold Box at h
  refine ⟨?_, ?_, ?_, ?_, ?_, ?_, ?_⟩ <;> simp [World.cell?, h]
theorem Box.free {B : Nat} {k op a b c i : Int} {u : Bool} {w : World} (h : Box B k op a b c i u w) : w.frozen? ⟨B, 0, none⟩ = false ∧ w.frozen? ⟨B, 1, none⟩ = false ∧ w.frozen? ⟨B, 2, none⟩ = false ∧ w.frozen? ⟨B, 3, none⟩ = false ∧ w.frozen? ⟨B, 4, none⟩ = false ∧ w.frozen? ⟨B, 5, none⟩ = false ∧ w.frozen? ⟨B, 6, none⟩ = false := by
  unfold Box at h
  refine ⟨?_, ?_, ?_, ?_, ?_, ?_, ?_⟩ <;> simp [World.frozen?, h]
theorem Box.kept {B : Nat} {k op a b c i : Int} {u : Bool} {w w' : World} (h : Box B k op a b c i u w) (hK : Kept w w') : Box B k op a b c i u w' := hK.block h
theorem Box.new (k op a b c i : Int) (u : Bool) (w : World) : Box w.heap.size k op a b c i u (w.alloc (.cells #[.int .i64 k, .int .i64 op, .int .i64 a, .int .i64 b, .int .i64 c, .int .i64 i, .bool u] 57)) := heap_alloc_last _ _
theorem Box.alloc {B : Nat} {k op a b c i : Int} {u : Bool} {w : World} (h : Box B k op a b c i u w) (o : Obj) : Box B k op a b c i u (w.alloc o) := heap_alloc_keep h _
theorem Box.drew {B : Nat} {k op a b c i : Int} {u : Bool} {w : World} (h : Box B k op a b c i u w) : Box B k op a b c i u w.drew := h
theorem Box.set {B B' : Nat} {k op a b c i : Int} {u : Bool} {w : World} (h : Box B k op a b c i u w) (hB : B ≠ B') (j : Nat) (v : Value) : Box B k op a b c i u (w.setCell ⟨B', j, none⟩ v) := heap_setCell_keep h hB _
/-- seven cells stored -/
def store7 (w : World) (B' : Nat) (k op a b c i : Int) (u : Bool) : World := ((((((w.setCell ⟨B', 0, none⟩ (.int .i64 k)).setCell ⟨B', 1, none⟩ (.int .i64 op)).setCell ⟨B', 2, none⟩ (.int .i64 a)).setCell ⟨B', 3, none⟩ (.int .i64 b)).setCell ⟨B', 4, none⟩ (.int .i64 c)).setCell ⟨B', 5, none⟩ (.int .i64 i)).setCell ⟨B', 6, none⟩ (.bool u)
theorem Box.other {B B' : Nat} {k op a b c i k' op' a' b' c' i' : Int} {u u' : Bool} {w : World} (h : Box B k op a b c i u w) (hB : B ≠ B') : Box B k op a b c i u (store7 w B' k' op' a' b' c' i' u') :=
  ((((((h.set hB _ _).set hB _ _).set hB _ _).set hB _ _).set hB _ _).set hB _ _).set hB _ _
theorem Kept.store7 {w0 w : World} (h : Kept w0 w) {B' : Nat} (hB : w0.heap.size ≤ B') (k op a b c i : Int) (u : Bool) : Kept w0 (store7 w B' k op a b c i u) :=
  ((((((h.setCell hB _).setCell hB _).setCell hB _).setCell hB _).setCell hB _).setCell hB _).setCell hB _
theorem Box.stored {B : Nat} {k op a b c i k' op' a' b' c' i' : Int} {u u' : Bool} {w : World} (h : Box B k op a b c i u w) : Box B k' op' a' b' c' i' u' (store7 w B k' op' a' b' c' i' u') := by
  unfold Box at *
  unfold store7
  simp [World.setCell, Array.getElem?_modify, h]
theorem size_alloc1 (w : World) (o : Obj) : (w.alloc o).heap.size = w.heap.size + 1 := by simp
set_option maxHeartbeats 2000000 in
theorem named_1f (op a b c i : Int) (w : World) :
    Calls Tryz.prog 93 #[.agg #[.int .i64 1, .int .i64 op, .int .i64 a, .int .i64 b, .int .i64 c, .int .i64 i, .bool false]] w fun e w' => e = .returned (.agg #[.int .i64 1, .int .i64 op, .int .i64 a, .int .i64 (I.nb op b), .int .i64 c, .int .i64 0, .bool false]) ∧ Kept w w' := by
  have hK0 := Kept.refl ((w.alloc (.cells #[.int .i64 1, .int .i64 op, .int .i64 a, .int .i64 b, .int .i64 c, .int .i64 i, .bool false] 57)).alloc (.cells #[.int .i64 0, .int .i64 0, .int .i64 0, .int .i64 0, .int .i64 0, .int .i64 0, .bool false] 57))
  have X1 := (Box.new 1 op a b c i false w).alloc (.cells #[.int .i64 0, .int .i64 0, .int .i64 0, .int .i64 0, .int .i64 0, .int .i64 0, .bool false] 57)
  have X2 := size_alloc1 w (.cells #[.int .i64 1, .int .i64 op, .int .i64 a, .int .i64 b, .int .i64 c, .int .i64 i, .bool false] 57) ▸ Box.new 0 0 0 0 0 0 false (w.alloc (.cells #[.int .i64 1, .int .i64 op, .int .i64 a, .int .i64 b, .int .i64 c, .int .i64 i, .bool false] 57))
  have hB := show Kept w ((w.alloc (.cells #[.int .i64 1, .int .i64 op, .int .i64 a, .int .i64 b, .int .i64 c, .int .i64 i, .bool false] 57)).alloc (.cells #[.int .i64 0, .int .i64 0, .int .i64 0, .int .i64 0, .int .i64 0, .int .i64 0, .bool false] 57)) from ((Kept.refl w).alloc _ _).alloc _ _
  go_enter Tryz.func93, Tryz.ntmps93
  go_wp2_with fail
  generalize ((w.alloc (.cells #[.int .i64 1, .int .i64 op, .int .i64 a, .int .i64 b, .int .i64 c, .int .i64 i, .bool false] 57)).alloc (.cells #[.int .i64 0, .int .i64 0, .int .i64 0, .int .i64 0, .int .i64 0, .int .i64 0, .bool false] 57)) = wB at hK0 hB X1 X2
  have HB := Lib.hid hB
  have HX1 := Lib.hid X1
  have HX2 := Lib.hid X2
  clear hB X1 X2
  refine wp_region_held_drew (S := fun w' => w'.cell? ⟨w.heap.size, 0, none⟩ = some (.int .i64 1) ∧ w'.cell? ⟨w.heap.size, 1, none⟩ = some (.int .i64 op) ∧ w'.cell? ⟨w.heap.size, 2, none⟩ = some (.int .i64 a) ∧ w'.cell? ⟨w.heap.size, 3, none⟩ = some (.int .i64 b) ∧ w'.cell? ⟨w.heap.size, 4, none⟩ = some (.int .i64 c) ∧ w'.cell? ⟨w.heap.size, 5, none⟩ = some (.int .i64 i) ∧ w'.cell? ⟨w.heap.size, 6, none⟩ = some (.bool false)) (by kernel_rfl) ?_ (fun hHeld => ?_)
  · exact (HX1.out.kept hK0.drew).cells
  refine tk 0 ⟨some 7, .fieldAddr 57 (.tmp 1) 0, 0, "isa.go:38", #[], none⟩ (v := ?_) hHeld ?_ ?_
  rotate_left
  · (intro w hSw; (try dsimp only at hSw); go_simp; try with_reducible rfl)
  try simp only [Act.put, q0, q1, q2]
  refine tk 1 ⟨some 8, .load 3 (.tmp 7), 3, "isa.go:38", #[eD 0], none⟩ (v := ?_) hHeld ?_ ?_
  rotate_left
  · (intro w hSw; (try dsimp only at hSw); go_simp; try with_reducible rfl)
  try simp only [Act.put, q0, q1, q2]
  refine tk 2 ⟨some 9, .fieldAddr 57 (.tmp 1) 1, 0, "isa.go:38", #[], none⟩ (v := ?_) hHeld ?_ ?_
  rotate_left
  · (intro w hSw; (try dsimp only at hSw); go_simp; try with_reducible rfl)
  try simp only [Act.put, q0, q1, q2]
  refine tk 3 ⟨some 10, .load 3 (.tmp 9), 3, "isa.go:38", #[eD 2], none⟩ (v := ?_) hHeld ?_ ?_
  rotate_left
  · (intro w hSw; (try dsimp only at hSw); go_simp; try with_reducible rfl)
  try simp only [Act.put, q0, q1, q2]
  refine tk 4 ⟨some 11, .fieldAddr 57 (.tmp 1) 2, 0, "isa.go:38", #[], none⟩ (v := ?_) hHeld ?_ ?_
  rotate_left
  · (intro w hSw; (try dsimp only at hSw); go_simp; try with_reducible rfl)
  try simp only [Act.put, q0, q1, q2]
  refine tk 5 ⟨some 12, .load 3 (.tmp 11), 3, "isa.go:38", #[eD 4], none⟩ (v := ?_) hHeld ?_ ?_
  rotate_left
  · (intro w hSw; (try dsimp only at hSw); go_simp; try with_reducible rfl)
  try simp only [Act.put, q0, q1, q2]
  refine tk 6 ⟨some 13, .load 57 (.tmp 1), 57, "isa.go:38", #[], none⟩ (v := ?_) hHeld ?_ ?_
  rotate_left
  · (intro w hSw; (try dsimp only at hSw); go_simp; try with_reducible rfl)
  try simp only [Act.put, q0, q1, q2]
  refine tk 8 ⟨some 15, .fieldAddr 57 (.tmp 1) 4, 0, "isa.go:38", #[], none⟩ (v := ?_) hHeld ?_ ?_
  rotate_left
  · (intro w hSw; (try dsimp only at hSw); go_simp; try with_reducible rfl)
  try simp only [Act.put, q0, q1, q2]
  refine tk 9 ⟨some 16, .load 3 (.tmp 15), 3, "isa.go:38", #[eD 8], none⟩ (v := ?_) hHeld ?_ ?_
  rotate_left
  · (intro w hSw; (try dsimp only at hSw); go_simp; try with_reducible rfl)
  try simp only [Act.put, q0, q1, q2]
  refine tk 10 ⟨some 17, .fieldAddr 57 (.tmp 1) 6, 0, "isa.go:38", #[], none⟩ (v := ?_) hHeld ?_ ?_
  rotate_left
  · (intro w hSw; (try dsimp only at hSw); go_simp; try with_reducible rfl)
  try simp only [Act.put, q0, q1, q2]
  refine tk 11 ⟨some 18, .load 4 (.tmp 17), 4, "isa.go:38", #[eD 10], none⟩ (v := ?_) hHeld ?_ ?_
  rotate_left
  · (intro w hSw; (try dsimp only at hSw); go_simp; try with_reducible rfl)
  try simp only [Act.put, q0, q1, q2]
  refine wpAnyH_ready (rs := [7]) (by kernel_rfl) (by simp) ?_
  refine AllReadyH.cons (o := ⟨some 14, .call { callee := .value (.func 106), args := #[.tmp 13], argTypes := #[57] }, 3, "isa.go:38", #[eD 6], none⟩) rfl (fun K hK => ?_) AllReadyH.nil
  go_simp
  go_at_call 106
  refine (namedB_any _ _ _ _ _ _ _ _).mono ?_
  rintro e w5 ⟨rfl, hK5⟩
  replace hK5 := Kept.trans (a := wB) hK0.drew hK5
  clear hHeld
  refine hK.out _ _ ?_ (fun hHeld => ?_)
  · exact (HX1.out.kept hK5).cells
  clear hK K
  try simp only [Act.put, q0, q1, q2]
  refine tk 12 ⟨some 19, .move (.tmp 18), 4, "isa.go:38", #[eD 11, eC 7], none⟩ (v := ?_) hHeld ?_ ?_
  rotate_left
  · (intro w hSw; (try dsimp only at hSw); go_simp; try with_reducible rfl)
  try simp only [Act.put, q0, q1, q2]
  refine tu 13 ⟨some 20, .fieldAddr 57 (.tmp 1) 1, 0, "isa.go:38", #[eG 12], some (12, true)⟩ hHeld ?_
  try simp only [Act.put, q0, q1, q2]
  refine tu 14 ⟨some 21, .load 3 (.tmp 20), 3, "isa.go:38", #[eD 13, eG 12], some (12, true)⟩ hHeld ?_
  try simp only [Act.put, q0, q1, q2]
  refine tu 15 ⟨some 22, .call { callee := .value (.func 107), args := #[.tmp 21], argTypes := #[3] }, 4, "isa.go:38", #[eD 14, eC 12, eG 12], some (12, true)⟩ hHeld ?_
  try simp only [Act.put, q0, q1, q2]
  refine tk 16 ⟨some 23, .pick (.tmp 19) (.tmp 22) (.const (.bool false)), 4, "isa.go:38", #[eD 12, eD 15], none⟩ (v := ?_) hHeld ?_ ?_
  rotate_left
  · (intro w hSw; (try dsimp only at hSw); go_simp; try with_reducible rfl)
  try simp only [Act.put, q0, q1, q2]
  refine tk 17 ⟨some 24, .build 57 #[(0, .tmp 8), (1, .tmp 10), (2, .tmp 12), (3, .tmp 14), (4, .tmp 16), (6, .tmp 23)], 57, "isa.go:38", #[eD 1, eD 3, eD 5, eD 7, eD 9, eD 16], none⟩ (v := ?_) hHeld ?_ ?_
  rotate_left
  · (intro w hSw; (try dsimp only at hSw); go_simp; try with_reducible rfl)
  try simp only [Act.put, q0, q1, q2]
  refine wpAnyH_ready (rs := [18]) (by kernel_rfl) (by simp) ?_
  refine AllReadyH.cons (o := ⟨none, .store 57 (.tmp 2) (.tmp 24), 0, "isa.go:38", #[eD 17, eC 15, eP 0, eP 1, eP 2, eP 3, eP 4, eP 5, eP 6, eP 7, eP 8, eP 9, eP 10, eP 11, eP 12, eP 13, eP 14, eP 15, eP 16, eP 17], none⟩) rfl (fun K hK => ?_) AllReadyH.nil
  obtain ⟨c0, c1, c2, c3, c4, c5, c6⟩ := (HX2.out.kept hK5).cells
  obtain ⟨f0, f1, f2, f3, f4, f5, f6⟩ := (HX2.out.kept hK5).free
  go_simp
  clear hHeld
  refine hK.out _ _ ?_ (fun hHeld => ?_)
  · exact ((HX1.out.kept hK5).other (by omega)).cells
  clear hK K
  try simp only [Act.put, q0, q1, q2]
  refine wpAnyH_done (by kernel_rfl) ?_ _
  have R := (HX2.out.kept hK5).stored (k' := 1) (op' := op) (a' := a) (b' := I.nb op b) (c' := c) (i' := 0) (u' := false)
  have RK := (HB.out.trans hK5).store7 (B' := w.heap.size + 1) (by omega) (1) (op) (a) (I.nb op b) (c) (0) (false)
  unfold store7 at R RK
  generalize (((((((w5.setCell ⟨w.heap.size + 1, 0, none⟩ (.int .i64 (1))).setCell ⟨w.heap.size + 1, 1, none⟩ (.int .i64 (op))).setCell ⟨w.heap.size + 1, 2, none⟩ (.int .i64 (a))).setCell ⟨w.heap.size + 1, 3, none⟩ (.int .i64 (I.nb op b))).setCell ⟨w.heap.size + 1, 4, none⟩ (.int .i64 (c))).setCell ⟨w.heap.size + 1, 5, none⟩ (.int .i64 (0))).setCell ⟨w.heap.size + 1, 6, none⟩ (.bool (false))) = w7 at R RK ⊢
  obtain ⟨r0, r1, r2, r3, r4, r5, r6⟩ := R.cells
  clear R hK5 HB HX1 HX2 hHeld
  have RK := Lib.hid RK
  go_wp2_with fail
  exact bodyPost_ret (v := .agg #[.int .i64 1, .int .i64 op, .int .i64 a, .int .i64 (I.nb op b), .int .i64 c, .int .i64 0, .bool false]) (by simp [results, Tryz.results93, go_sem, *]) rfl ⟨rfl, RK.out⟩
set_option maxHeartbeats 2000000 in
theorem named_1t (op a b c i : Int) (w : World) :
    Calls Tryz.prog 93 #[.agg #[.int .i64 1, .int .i64 op, .int .i64 a, .int .i64 b, .int .i64 c, .int .i64 i, .bool true]] w fun e w' => e = .returned (.agg #[.int .i64 1, .int .i64 op, .int .i64 a, .int .i64 (I.nb op b), .int .i64 c, .int .i64 0, .bool (I.carry op)]) ∧ Kept w w' := by
  have hK0 := Kept.refl ((w.alloc (.cells #[.int .i64 1, .int .i64 op, .int .i64 a, .int .i64 b, .int .i64 c, .int .i64 i, .bool true] 57)).alloc (.cells #[.int .i64 0, .int .i64 0, .int .i64 0, .int .i64 0, .int .i64 0, .int .i64 0, .bool false] 57))
  have X1 := (Box.new 1 op a b c i true w).alloc (.cells #[.int .i64 0, .int .i64 0, .int .i64 0, .int .i64 0, .int .i64 0, .int .i64 0, .bool false] 57)
  have X2 := size_alloc1 w (.cells #[.int .i64 1, .int .i64 op, .int .i64 a, .int .i64 b, .int .i64 c, .int .i64 i, .bool true] 57) ▸ Box.new 0 0 0 0 0 0 false (w.alloc (.cells #[.int .i64 1, .int .i64 op, .int .i64 a, .int .i64 b, .int .i64 c, .int .i64 i, .bool true] 57))
  have hB := show Kept w ((w.alloc (.cells #[.int .i64 1, .int .i64 op, .int .i64 a, .int .i64 b, .int .i64 c, .int .i64 i, .bool true] 57)).alloc (.cells #[.int .i64 0, .int .i64 0, .int .i64 0, .int .i64 0, .int .i64 0, .int .i64 0, .bool false] 57)) from ((Kept.refl w).alloc _ _).alloc _ _
  go_enter Tryz.func93, Tryz.ntmps93
  go_wp2_with fail
  generalize ((w.alloc (.cells #[.int .i64 1, .int .i64 op, .int .i64 a, .int .i64 b, .int .i64 c, .int .i64 i, .bool true] 57)).alloc (.cells #[.int .i64 0, .int .i64 0, .int .i64 0, .int .i64 0, .int .i64 0, .int .i64 0, .bool false] 57)) = wB at hK0 hB X1 X2
  have HB := Lib.hid hB
  have HX1 := Lib.hid X1
  have HX2 := Lib.hid X2
  clear hB X1 X2
  refine wp_region_held_drew (S := fun w' => w'.cell? ⟨w.heap.size, 0, none⟩ = some (.int .i64 1) ∧ w'.cell? ⟨w.heap.size, 1, none⟩ = some (.int .i64 op) ∧ w'.cell? ⟨w.heap.size, 2, none⟩ = some (.int .i64 a) ∧ w'.cell? ⟨w.heap.size, 3, none⟩ = some (.int .i64 b) ∧ w'.cell? ⟨w.heap.size, 4, none⟩ = some (.int .i64 c) ∧ w'.cell? ⟨w.heap.size, 5, none⟩ = some (.int .i64 i) ∧ w'.cell? ⟨w.heap.size, 6, none⟩ = some (.bool true)) (by kernel_rfl) ?_ (fun hHeld => ?_)
  · exact (HX1.out.kept hK0.drew).cells
  refine tk 0 ⟨some 7, .fieldAddr 57 (.tmp 1) 0, 0, "isa.go:38", #[], none⟩ (v := ?_) hHeld ?_ ?_
  rotate_left
  · (intro w hSw; (try dsimp only at hSw); go_simp; try with_reducible rfl)
  try simp only [Act.put, q0, q1, q2]
  refine tk 1 ⟨some 8, .load 3 (.tmp 7), 3, "isa.go:38", #[eD 0], none⟩ (v := ?_) hHeld ?_ ?_
  rotate_left
  · (intro w hSw; (try dsimp only at hSw); go_simp; try with_reducible rfl)
  try simp only [Act.put, q0, q1, q2]
  refine tk 2 ⟨some 9, .fieldAddr 57 (.tmp 1) 1, 0, "isa.go:38", #[], none⟩ (v := ?_) hHeld ?_ ?_
  rotate_left
  · (intro w hSw; (try dsimp only at hSw); go_simp; try with_reducible rfl)
  try simp only [Act.put, q0, q1, q2]
  refine tk 3 ⟨some 10, .load 3 (.tmp 9), 3, "isa.go:38", #[eD 2], none⟩ (v := ?_) hHeld ?_ ?_
  rotate_left
  · (intro w hSw; (try dsimp only at hSw); go_simp; try with_reducible rfl)
  try simp only [Act.put, q0, q1, q2]
  refine tk 4 ⟨some 11, .fieldAddr 57 (.tmp 1) 2, 0, "isa.go:38", #[], none⟩ (v := ?_) hHeld ?_ ?_
  rotate_left
  · (intro w hSw; (try dsimp only at hSw); go_simp; try with_reducible rfl)
  try simp only [Act.put, q0, q1, q2]
  refine tk 5 ⟨some 12, .load 3 (.tmp 11), 3, "isa.go:38", #[eD 4], none⟩ (v := ?_) hHeld ?_ ?_
  rotate_left
  · (intro w hSw; (try dsimp only at hSw); go_simp; try with_reducible rfl)
  try simp only [Act.put, q0, q1, q2]
  refine tk 6 ⟨some 13, .load 57 (.tmp 1), 57, "isa.go:38", #[], none⟩ (v := ?_) hHeld ?_ ?_
  rotate_left
  · (intro w hSw; (try dsimp only at hSw); go_simp; try with_reducible rfl)
  try simp only [Act.put, q0, q1, q2]
  refine tk 8 ⟨some 15, .fieldAddr 57 (.tmp 1) 4, 0, "isa.go:38", #[], none⟩ (v := ?_) hHeld ?_ ?_
  rotate_left
  · (intro w hSw; (try dsimp only at hSw); go_simp; try with_reducible rfl)
  try simp only [Act.put, q0, q1, q2]
  refine tk 9 ⟨some 16, .load 3 (.tmp 15), 3, "isa.go:38", #[eD 8], none⟩ (v := ?_) hHeld ?_ ?_
  rotate_left
  · (intro w hSw; (try dsimp only at hSw); go_simp; try with_reducible rfl)
  try simp only [Act.put, q0, q1, q2]
  refine tk 10 ⟨some 17, .fieldAddr 57 (.tmp 1) 6, 0, "isa.go:38", #[], none⟩ (v := ?_) hHeld ?_ ?_
  rotate_left
  · (intro w hSw; (try dsimp only at hSw); go_simp; try with_reducible rfl)
  try simp only [Act.put, q0, q1, q2]
  refine tk 11 ⟨some 18, .load 4 (.tmp 17), 4, "isa.go:38", #[eD 10], none⟩ (v := ?_) hHeld ?_ ?_
  rotate_left
  · (intro w hSw; (try dsimp only at hSw); go_simp; try with_reducible rfl)
  try simp only [Act.put, q0, q1, q2]
  refine wpAnyH_ready (rs := [7]) (by kernel_rfl) (by simp) ?_
  refine AllReadyH.cons (o := ⟨some 14, .call { callee := .value (.func 106), args := #[.tmp 13], argTypes := #[57] }, 3, "isa.go:38", #[eD 6], none⟩) rfl (fun K hK => ?_) AllReadyH.nil
  go_simp
  go_at_call 106
  refine (namedB_any _ _ _ _ _ _ _ _).mono ?_
  rintro e w5 ⟨rfl, hK5⟩
  replace hK5 := Kept.trans (a := wB) hK0.drew hK5
  clear hHeld
  refine hK.out _ _ ?_ (fun hHeld => ?_)
  · exact (HX1.out.kept hK5).cells
  clear hK K
  try simp only [Act.put, q0, q1, q2]
  refine tk 12 ⟨some 19, .move (.tmp 18), 4, "isa.go:38", #[eD 11, eC 7], none⟩ (v := ?_) hHeld ?_ ?_
  rotate_left
  · (intro w hSw; (try dsimp only at hSw); go_simp; try with_reducible rfl)
  try simp only [Act.put, q0, q1, q2]
  refine tk 13 ⟨some 20, .fieldAddr 57 (.tmp 1) 1, 0, "isa.go:38", #[eG 12], some (12, true)⟩ (v := ?_) hHeld ?_ ?_
  rotate_left
  · (intro w hSw; (try dsimp only at hSw); go_simp; try with_reducible rfl)
  try simp only [Act.put, q0, q1, q2]
  refine tk 14 ⟨some 21, .load 3 (.tmp 20), 3, "isa.go:38", #[eD 13, eG 12], some (12, true)⟩ (v := ?_) hHeld ?_ ?_
  rotate_left
  · (intro w hSw; (try dsimp only at hSw); go_simp; try with_reducible rfl)
  try simp only [Act.put, q0, q1, q2]
  refine wpAnyH_ready (rs := [15]) (by kernel_rfl) (by simp) ?_
  refine AllReadyH.cons (o := ⟨some 22, .call { callee := .value (.func 107), args := #[.tmp 21], argTypes := #[3] }, 4, "isa.go:38", #[eD 14, eC 12, eG 12], some (12, true)⟩) rfl (fun K hK => ?_) AllReadyH.nil
  go_simp
  go_at_call 107
  refine (hasCarry_any _ _).mono ?_
  rintro e w6 ⟨rfl, rfl⟩
  clear hHeld
  refine hK.out _ _ ?_ (fun hHeld => ?_)
  · exact (HX1.out.kept hK5).cells
  clear hK K
  try simp only [Act.put, q0, q1, q2]
  refine tk 16 ⟨some 23, .pick (.tmp 19) (.tmp 22) (.const (.bool false)), 4, "isa.go:38", #[eD 12, eD 15], none⟩ (v := ?_) hHeld ?_ ?_
  rotate_left
  · (intro w hSw; (try dsimp only at hSw); go_simp; try with_reducible rfl)
  try simp only [Act.put, q0, q1, q2]
  refine tk 17 ⟨some 24, .build 57 #[(0, .tmp 8), (1, .tmp 10), (2, .tmp 12), (3, .tmp 14), (4, .tmp 16), (6, .tmp 23)], 57, "isa.go:38", #[eD 1, eD 3, eD 5, eD 7, eD 9, eD 16], none⟩ (v := ?_) hHeld ?_ ?_
  rotate_left
  · (intro w hSw; (try dsimp only at hSw); go_simp; try with_reducible rfl)
  try simp only [Act.put, q0, q1, q2]
  refine wpAnyH_ready (rs := [18]) (by kernel_rfl) (by simp) ?_
  refine AllReadyH.cons (o := ⟨none, .store 57 (.tmp 2) (.tmp 24), 0, "isa.go:38", #[eD 17, eC 15, eP 0, eP 1, eP 2, eP 3, eP 4, eP 5, eP 6, eP 7, eP 8, eP 9, eP 10, eP 11, eP 12, eP 13, eP 14, eP 15, eP 16, eP 17], none⟩) rfl (fun K hK => ?_) AllReadyH.nil
  obtain ⟨c0, c1, c2, c3, c4, c5, c6⟩ := (HX2.out.kept hK5).cells
  obtain ⟨f0, f1, f2, f3, f4, f5, f6⟩ := (HX2.out.kept hK5).free
  go_simp
  clear hHeld
  refine hK.out _ _ ?_ (fun hHeld => ?_)
  · exact ((HX1.out.kept hK5).other (by omega)).cells
  clear hK K
  try simp only [Act.put, q0, q1, q2]
  refine wpAnyH_done (by kernel_rfl) ?_ _
  have R := (HX2.out.kept hK5).stored (k' := 1) (op' := op) (a' := a) (b' := I.nb op b) (c' := c) (i' := 0) (u' := I.carry op)
  have RK := (HB.out.trans hK5).store7 (B' := w.heap.size + 1) (by omega) (1) (op) (a) (I.nb op b) (c) (0) (I.carry op)
  unfold store7 at R RK
  generalize (((((((w5.setCell ⟨w.heap.size + 1, 0, none⟩ (.int .i64 (1))).setCell ⟨w.heap.size + 1, 1, none⟩ (.int .i64 (op))).setCell ⟨w.heap.size + 1, 2, none⟩ (.int .i64 (a))).setCell ⟨w.heap.size + 1, 3, none⟩ (.int .i64 (I.nb op b))).setCell ⟨w.heap.size + 1, 4, none⟩ (.int .i64 (c))).setCell ⟨w.heap.size + 1, 5, none⟩ (.int .i64 (0))).setCell ⟨w.heap.size + 1, 6, none⟩ (.bool (I.carry op))) = w7 at R RK ⊢
  obtain ⟨r0, r1, r2, r3, r4, r5, r6⟩ := R.cells
  clear R hK5 HB HX1 HX2 hHeld
  have RK := Lib.hid RK
  go_wp2_with fail
  exact bodyPost_ret (v := .agg #[.int .i64 1, .int .i64 op, .int .i64 a, .int .i64 (I.nb op b), .int .i64 c, .int .i64 0, .bool (I.carry op)]) (by simp [results, Tryz.results93, go_sem, *]) rfl ⟨rfl, RK.out⟩
set_option maxHeartbeats 2000000 in
theorem named_2f (op a b c i : Int) (w : World) :
    Calls Tryz.prog 93 #[.agg #[.int .i64 2, .int .i64 op, .int .i64 a, .int .i64 b, .int .i64 c, .int .i64 i, .bool false]] w fun e w' => e = .returned (.agg #[.int .i64 2, .int .i64 op, .int .i64 a, .int .i64 (I.nb op b), .int .i64 0, .int .i64 i, .bool false]) ∧ Kept w w' := by
  have hK0 := Kept.refl ((w.alloc (.cells #[.int .i64 2, .int .i64 op, .int .i64 a, .int .i64 b, .int .i64 c, .int .i64 i, .bool false] 57)).alloc (.cells #[.int .i64 0, .int .i64 0, .int .i64 0, .int .i64 0, .int .i64 0, .int .i64 0, .bool false] 57))
  have X1 := (Box.new 2 op a b c i false w).alloc (.cells #[.int .i64 0, .int .i64 0, .int .i64 0, .int .i64 0, .int .i64 0, .int .i64 0, .bool false] 57)
  have X2 := size_alloc1 w (.cells #[.int .i64 2, .int .i64 op, .int .i64 a, .int .i64 b, .int .i64 c, .int .i64 i, .bool false] 57) ▸ Box.new 0 0 0 0 0 0 false (w.alloc (.cells #[.int .i64 2, .int .i64 op, .int .i64 a, .int .i64 b, .int .i64 c, .int .i64 i, .bool false] 57))
  have hB := show Kept w ((w.alloc (.cells #[.int .i64 2, .int .i64 op, .int .i64 a, .int .i64 b, .int .i64 c, .int .i64 i, .bool false] 57)).alloc (.cells #[.int .i64 0, .int .i64 0, .int .i64 0, .int .i64 0, .int .i64 0, .int .i64 0, .bool false] 57)) from ((Kept.refl w).alloc _ _).alloc _ _
  go_enter Tryz.func93, Tryz.ntmps93
  go_wp2_with fail
  generalize ((w.alloc (.cells #[.int .i64 2, .int .i64 op, .int .i64 a, .int .i64 b, .int .i64 c, .int .i64 i, .bool false] 57)).alloc (.cells #[.int .i64 0, .int .i64 0, .int .i64 0, .int .i64 0, .int .i64 0, .int .i64 0, .bool false] 57)) = wB at hK0 hB X1 X2
  have HB := Lib.hid hB
  have HX1 := Lib.hid X1
  have HX2 := Lib.hid X2
  clear hB X1 X2
  refine wp_region_held_drew (S := fun w' => w'.cell? ⟨w.heap.size, 0, none⟩ = some (.int .i64 2) ∧ w'.cell? ⟨w.heap.size, 1, none⟩ = some (.int .i64 op) ∧ w'.cell? ⟨w.heap.size, 2, none⟩ = some (.int .i64 a) ∧ w'.cell? ⟨w.heap.size, 3, none⟩ = some (.int .i64 b) ∧ w'.cell? ⟨w.heap.size, 4, none⟩ = some (.int .i64 c) ∧ w'.cell? ⟨w.heap.size, 5, none⟩ = some (.int .i64 i) ∧ w'.cell? ⟨w.heap.size, 6, none⟩ = some (.bool false)) (by kernel_rfl) ?_ (fun hHeld => ?_)
  · exact (HX1.out.kept hK0.drew).cells
  refine tk 0 ⟨some 27, .fieldAddr 57 (.tmp 1) 0, 0, "isa.go:40", #[], none⟩ (v := ?_) hHeld ?_ ?_
  rotate_left
  · (intro w hSw; (try dsimp only at hSw); go_simp; try with_reducible rfl)
  try simp only [Act.put, q0, q1, q2]
  refine tk 1 ⟨some 28, .load 3 (.tmp 27), 3, "isa.go:40", #[eD 0], none⟩ (v := ?_) hHeld ?_ ?_
  rotate_left
  · (intro w hSw; (try dsimp only at hSw); go_simp; try with_reducible rfl)
  try simp only [Act.put, q0, q1, q2]
  refine tk 2 ⟨some 29, .fieldAddr 57 (.tmp 1) 1, 0, "isa.go:40", #[], none⟩ (v := ?_) hHeld ?_ ?_
  rotate_left
  · (intro w hSw; (try dsimp only at hSw); go_simp; try with_reducible rfl)
  try simp only [Act.put, q0, q1, q2]
  refine tk 3 ⟨some 30, .load 3 (.tmp 29), 3, "isa.go:40", #[eD 2], none⟩ (v := ?_) hHeld ?_ ?_
  rotate_left
  · (intro w hSw; (try dsimp only at hSw); go_simp; try with_reducible rfl)
  try simp only [Act.put, q0, q1, q2]
  refine tk 4 ⟨some 31, .fieldAddr 57 (.tmp 1) 2, 0, "isa.go:40", #[], none⟩ (v := ?_) hHeld ?_ ?_
  rotate_left
  · (intro w hSw; (try dsimp only at hSw); go_simp; try with_reducible rfl)
  try simp only [Act.put, q0, q1, q2]
  refine tk 5 ⟨some 32, .load 3 (.tmp 31), 3, "isa.go:40", #[eD 4], none⟩ (v := ?_) hHeld ?_ ?_
  rotate_left
  · (intro w hSw; (try dsimp only at hSw); go_simp; try with_reducible rfl)
  try simp only [Act.put, q0, q1, q2]
  refine tk 6 ⟨some 33, .load 57 (.tmp 1), 57, "isa.go:40", #[], none⟩ (v := ?_) hHeld ?_ ?_
  rotate_left
  · (intro w hSw; (try dsimp only at hSw); go_simp; try with_reducible rfl)
  try simp only [Act.put, q0, q1, q2]
  refine tk 8 ⟨some 35, .fieldAddr 57 (.tmp 1) 5, 0, "isa.go:40", #[], none⟩ (v := ?_) hHeld ?_ ?_
  rotate_left
  · (intro w hSw; (try dsimp only at hSw); go_simp; try with_reducible rfl)
  try simp only [Act.put, q0, q1, q2]
  refine tk 9 ⟨some 36, .load 3 (.tmp 35), 3, "isa.go:40", #[eD 8], none⟩ (v := ?_) hHeld ?_ ?_
  rotate_left
  · (intro w hSw; (try dsimp only at hSw); go_simp; try with_reducible rfl)
  try simp only [Act.put, q0, q1, q2]
  refine tk 10 ⟨some 37, .fieldAddr 57 (.tmp 1) 6, 0, "isa.go:40", #[], none⟩ (v := ?_) hHeld ?_ ?_
  rotate_left
  · (intro w hSw; (try dsimp only at hSw); go_simp; try with_reducible rfl)
  try simp only [Act.put, q0, q1, q2]
  refine tk 11 ⟨some 38, .load 4 (.tmp 37), 4, "isa.go:40", #[eD 10], none⟩ (v := ?_) hHeld ?_ ?_
  rotate_left
  · (intro w hSw; (try dsimp only at hSw); go_simp; try with_reducible rfl)
  try simp only [Act.put, q0, q1, q2]
  refine wpAnyH_ready (rs := [7]) (by kernel_rfl) (by simp) ?_
  refine AllReadyH.cons (o := ⟨some 34, .call { callee := .value (.func 106), args := #[.tmp 33], argTypes := #[57] }, 3, "isa.go:40", #[eD 6], none⟩) rfl (fun K hK => ?_) AllReadyH.nil
  go_simp
  go_at_call 106
  refine (namedB_any _ _ _ _ _ _ _ _).mono ?_
  rintro e w5 ⟨rfl, hK5⟩
  replace hK5 := Kept.trans (a := wB) hK0.drew hK5
  clear hHeld
  refine hK.out _ _ ?_ (fun hHeld => ?_)
  · exact (HX1.out.kept hK5).cells
  clear hK K
  try simp only [Act.put, q0, q1, q2]
  refine tk 12 ⟨some 39, .move (.tmp 38), 4, "isa.go:40", #[eD 11, eC 7], none⟩ (v := ?_) hHeld ?_ ?_
  rotate_left
  · (intro w hSw; (try dsimp only at hSw); go_simp; try with_reducible rfl)
  try simp only [Act.put, q0, q1, q2]
  refine tu 13 ⟨some 40, .fieldAddr 57 (.tmp 1) 1, 0, "isa.go:40", #[eG 12], some (12, true)⟩ hHeld ?_
  try simp only [Act.put, q0, q1, q2]
  refine tu 14 ⟨some 41, .load 3 (.tmp 40), 3, "isa.go:40", #[eD 13, eG 12], some (12, true)⟩ hHeld ?_
  try simp only [Act.put, q0, q1, q2]
  refine tu 15 ⟨some 42, .binOp .eql 3 (.tmp 41) (.const (.int .i64 0)) 3, 4, "isa.go:40", #[eD 14, eG 12], some (12, true)⟩ hHeld ?_
  try simp only [Act.put, q0, q1, q2]
  refine tu 16 ⟨some 43, .move (.tmp 42), 4, "isa.go:40", #[eD 15, eC 12, eG 12], some (12, true)⟩ hHeld ?_
  try simp only [Act.put, q0, q1, q2]
  refine tu 17 ⟨some 44, .fieldAddr 57 (.tmp 1) 1, 0, "isa.go:40", #[eG 16], some (16, false)⟩ hHeld ?_
  try simp only [Act.put, q0, q1, q2]
  refine tu 18 ⟨some 45, .load 3 (.tmp 44), 3, "isa.go:40", #[eD 17, eG 16], some (16, false)⟩ hHeld ?_
  try simp only [Act.put, q0, q1, q2]
  refine tu 19 ⟨some 46, .call { callee := .value (.func 107), args := #[.tmp 45], argTypes := #[3] }, 4, "isa.go:40", #[eD 18, eC 16, eG 16], some (16, false)⟩ hHeld ?_
  try simp only [Act.put, q0, q1, q2]
  refine tu 20 ⟨some 47, .pick (.tmp 43) (.const (.bool true)) (.tmp 46), 4, "isa.go:40", #[eD 16, eD 19, eG 12], some (12, true)⟩ hHeld ?_
  try simp only [Act.put, q0, q1, q2]
  refine tk 21 ⟨some 48, .pick (.tmp 39) (.tmp 47) (.const (.bool false)), 4, "isa.go:40", #[eD 12, eD 20], none⟩ (v := ?_) hHeld ?_ ?_
  rotate_left
  · (intro w hSw; (try dsimp only at hSw); go_simp; try with_reducible rfl)
  try simp only [Act.put, q0, q1, q2]
  refine tk 22 ⟨some 49, .build 57 #[(0, .tmp 28), (1, .tmp 30), (2, .tmp 32), (3, .tmp 34), (5, .tmp 36), (6, .tmp 48)], 57, "isa.go:40", #[eD 1, eD 3, eD 5, eD 7, eD 9, eD 21], none⟩ (v := ?_) hHeld ?_ ?_
  rotate_left
  · (intro w hSw; (try dsimp only at hSw); go_simp; try with_reducible rfl)
  try simp only [Act.put, q0, q1, q2]
  refine wpAnyH_ready (rs := [23]) (by kernel_rfl) (by simp) ?_
  refine AllReadyH.cons (o := ⟨none, .store 57 (.tmp 2) (.tmp 49), 0, "isa.go:40", #[eD 22, eC 19, eP 0, eP 1, eP 2, eP 3, eP 4, eP 5, eP 6, eP 7, eP 8, eP 9, eP 10, eP 11, eP 12, eP 13, eP 14, eP 15, eP 16, eP 17, eP 18, eP 19, eP 20, eP 21, eP 22], none⟩) rfl (fun K hK => ?_) AllReadyH.nil
  obtain ⟨c0, c1, c2, c3, c4, c5, c6⟩ := (HX2.out.kept hK5).cells
  obtain ⟨f0, f1, f2, f3, f4, f5, f6⟩ := (HX2.out.kept hK5).free
  go_simp
  clear hHeld
  refine hK.out _ _ ?_ (fun hHeld => ?_)
  · exact ((HX1.out.kept hK5).other (by omega)).cells
  clear hK K
  try simp only [Act.put, q0, q1, q2]
  refine wpAnyH_done (by kernel_rfl) ?_ _
  have R := (HX2.out.kept hK5).stored (k' := 2) (op' := op) (a' := a) (b' := I.nb op b) (c' := 0) (i' := i) (u' := false)
  have RK := (HB.out.trans hK5).store7 (B' := w.heap.size + 1) (by omega) (2) (op) (a) (I.nb op b) (0) (i) (false)
  unfold store7 at R RK
  generalize (((((((w5.setCell ⟨w.heap.size + 1, 0, none⟩ (.int .i64 (2))).setCell ⟨w.heap.size + 1, 1, none⟩ (.int .i64 (op))).setCell ⟨w.heap.size + 1, 2, none⟩ (.int .i64 (a))).setCell ⟨w.heap.size + 1, 3, none⟩ (.int .i64 (I.nb op b))).setCell ⟨w.heap.size + 1, 4, none⟩ (.int .i64 (0))).setCell ⟨w.heap.size + 1, 5, none⟩ (.int .i64 (i))).setCell ⟨w.heap.size + 1, 6, none⟩ (.bool (false))) = w7 at R RK ⊢
  obtain ⟨r0, r1, r2, r3, r4, r5, r6⟩ := R.cells
  clear R hK5 HB HX1 HX2 hHeld
  have RK := Lib.hid RK
  go_wp2_with fail
  exact bodyPost_ret (v := .agg #[.int .i64 2, .int .i64 op, .int .i64 a, .int .i64 (I.nb op b), .int .i64 0, .int .i64 i, .bool false]) (by simp [results, Tryz.results93, go_sem, *]) rfl ⟨rfl, RK.out⟩
set_option maxHeartbeats 2000000 in
theorem named_2z (a b c i : Int) (w : World) :
    Calls Tryz.prog 93 #[.agg #[.int .i64 2, .int .i64 0, .int .i64 a, .int .i64 b, .int .i64 c, .int .i64 i, .bool true]] w fun e w' => e = .returned (.agg #[.int .i64 2, .int .i64 0, .int .i64 a, .int .i64 (I.nb 0 b), .int .i64 0, .int .i64 i, .bool true]) ∧ Kept w w' := by
  have hK0 := Kept.refl ((w.alloc (.cells #[.int .i64 2, .int .i64 0, .int .i64 a, .int .i64 b, .int .i64 c, .int .i64 i, .bool true] 57)).alloc (.cells #[.int .i64 0, .int .i64 0, .int .i64 0, .int .i64 0, .int .i64 0, .int .i64 0, .bool false] 57))
  have X1 := (Box.new 2 0 a b c i true w).alloc (.cells #[.int .i64 0, .int .i64 0, .int .i64 0, .int .i64 0, .int .i64 0, .int .i64 0, .bool false] 57)
  have X2 := size_alloc1 w (.cells #[.int .i64 2, .int .i64 0, .int .i64 a, .int .i64 b, .int .i64 c, .int .i64 i, .bool true] 57) ▸ Box.new 0 0 0 0 0 0 false (w.alloc (.cells #[.int .i64 2, .int .i64 0, .int .i64 a, .int .i64 b, .int .i64 c, .int .i64 i, .bool true] 57))
  have hB := show Kept w ((w.alloc (.cells #[.int .i64 2, .int .i64 0, .int .i64 a, .int .i64 b, .int .i64 c, .int .i64 i, .bool true] 57)).alloc (.cells #[.int .i64 0, .int .i64 0, .int .i64 0, .int .i64 0, .int .i64 0, .int .i64 0, .bool false] 57)) from ((Kept.refl w).alloc _ _).alloc _ _
  go_enter Tryz.func93, Tryz.ntmps93
  go_wp2_with fail
  generalize ((w.alloc (.cells #[.int .i64 2, .int .i64 0, .int .i64 a, .int .i64 b, .int .i64 c, .int .i64 i, .bool true] 57)).alloc (.cells #[.int .i64 0, .int .i64 0, .int .i64 0, .int .i64 0, .int .i64 0, .int .i64 0, .bool false] 57)) = wB at hK0 hB X1 X2
  have HB := Lib.hid hB
  have HX1 := Lib.hid X1
  have HX2 := Lib.hid X2
  clear hB X1 X2
  refine wp_region_held_drew (S := fun w' => w'.cell? ⟨w.heap.size, 0, none⟩ = some (.int .i64 2) ∧ w'.cell? ⟨w.heap.size, 1, none⟩ = some (.int .i64 0) ∧ w'.cell? ⟨w.heap.size, 2, none⟩ = some (.int .i64 a) ∧ w'.cell? ⟨w.heap.size, 3, none⟩ = some (.int .i64 b) ∧ w'.cell? ⟨w.heap.size, 4, none⟩ = some (.int .i64 c) ∧ w'.cell? ⟨w.heap.size, 5, none⟩ = some (.int .i64 i) ∧ w'.cell? ⟨w.heap.size, 6, none⟩ = some (.bool true)) (by kernel_rfl) ?_ (fun hHeld => ?_)
  · exact (HX1.out.kept hK0.drew).cells
  refine tk 0 ⟨some 27, .fieldAddr 57 (.tmp 1) 0, 0, "isa.go:40", #[], none⟩ (v := ?_) hHeld ?_ ?_
  rotate_left
  · (intro w hSw; (try dsimp only at hSw); go_simp; try with_reducible rfl)
  try simp only [Act.put, q0, q1, q2]
  refine tk 1 ⟨some 28, .load 3 (.tmp 27), 3, "isa.go:40", #[eD 0], none⟩ (v := ?_) hHeld ?_ ?_
  rotate_left
  · (intro w hSw; (try dsimp only at hSw); go_simp; try with_reducible rfl)
  try simp only [Act.put, q0, q1, q2]
  refine tk 2 ⟨some 29, .fieldAddr 57 (.tmp 1) 1, 0, "isa.go:40", #[], none⟩ (v := ?_) hHeld ?_ ?_
  rotate_left
  · (intro w hSw; (try dsimp only at hSw); go_simp; try with_reducible rfl)
  try simp only [Act.put, q0, q1, q2]
  refine tk 3 ⟨some 30, .load 3 (.tmp 29), 3, "isa.go:40", #[eD 2], none⟩ (v := ?_) hHeld ?_ ?_
  rotate_left
  · (intro w hSw; (try dsimp only at hSw); go_simp; try with_reducible rfl)
  try simp only [Act.put, q0, q1, q2]
  refine tk 4 ⟨some 31, .fieldAddr 57 (.tmp 1) 2, 0, "isa.go:40", #[], none⟩ (v := ?_) hHeld ?_ ?_
  rotate_left
  · (intro w hSw; (try dsimp only at hSw); go_simp; try with_reducible rfl)
  try simp only [Act.put, q0, q1, q2]
  refine tk 5 ⟨some 32, .load 3 (.tmp 31), 3, "isa.go:40", #[eD 4], none⟩ (v := ?_) hHeld ?_ ?_
  rotate_left
  · (intro w hSw; (try dsimp only at hSw); go_simp; try with_reducible rfl)
  try simp only [Act.put, q0, q1, q2]
  refine tk 6 ⟨some 33, .load 57 (.tmp 1), 57, "isa.go:40", #[], none⟩ (v := ?_) hHeld ?_ ?_
  rotate_left
  · (intro w hSw; (try dsimp only at hSw); go_simp; try with_reducible rfl)
  try simp only [Act.put, q0, q1, q2]
  refine tk 8 ⟨some 35, .fieldAddr 57 (.tmp 1) 5, 0, "isa.go:40", #[], none⟩ (v := ?_) hHeld ?_ ?_
  rotate_left
  · (intro w hSw; (try dsimp only at hSw); go_simp; try with_reducible rfl)
  try simp only [Act.put, q0, q1, q2]
  refine tk 9 ⟨some 36, .load 3 (.tmp 35), 3, "isa.go:40", #[eD 8], none⟩ (v := ?_) hHeld ?_ ?_
  rotate_left
  · (intro w hSw; (try dsimp only at hSw); go_simp; try with_reducible rfl)
  try simp only [Act.put, q0, q1, q2]
  refine tk 10 ⟨some 37, .fieldAddr 57 (.tmp 1) 6, 0, "isa.go:40", #[], none⟩ (v := ?_) hHeld ?_ ?_
  rotate_left
  · (intro w hSw; (try dsimp only at hSw); go_simp; try with_reducible rfl)
  try simp only [Act.put, q0, q1, q2]
  refine tk 11 ⟨some 38, .load 4 (.tmp 37), 4, "isa.go:40", #[eD 10], none⟩ (v := ?_) hHeld ?_ ?_
  rotate_left
  · (intro w hSw; (try dsimp only at hSw); go_simp; try with_reducible rfl)
  try simp only [Act.put, q0, q1, q2]
  refine wpAnyH_ready (rs := [7]) (by kernel_rfl) (by simp) ?_
  refine AllReadyH.cons (o := ⟨some 34, .call { callee := .value (.func 106), args := #[.tmp 33], argTypes := #[57] }, 3, "isa.go:40", #[eD 6], none⟩) rfl (fun K hK => ?_) AllReadyH.nil
  go_simp
  go_at_call 106
  refine (namedB_any _ _ _ _ _ _ _ _).mono ?_
  rintro e w5 ⟨rfl, hK5⟩
  replace hK5 := Kept.trans (a := wB) hK0.drew hK5
  clear hHeld
  refine hK.out _ _ ?_ (fun hHeld => ?_)
  · exact (HX1.out.kept hK5).cells
  clear hK K
  try simp only [Act.put, q0, q1, q2]
  refine tk 12 ⟨some 39, .move (.tmp 38), 4, "isa.go:40", #[eD 11, eC 7], none⟩ (v := ?_) hHeld ?_ ?_
  rotate_left
  · (intro w hSw; (try dsimp only at hSw); go_simp; try with_reducible rfl)
  try simp only [Act.put, q0, q1, q2]
  refine tk 13 ⟨some 40, .fieldAddr 57 (.tmp 1) 1, 0, "isa.go:40", #[eG 12], some (12, true)⟩ (v := ?_) hHeld ?_ ?_
  rotate_left
  · (intro w hSw; (try dsimp only at hSw); go_simp; try with_reducible rfl)
  try simp only [Act.put, q0, q1, q2]
  refine tk 14 ⟨some 41, .load 3 (.tmp 40), 3, "isa.go:40", #[eD 13, eG 12], some (12, true)⟩ (v := ?_) hHeld ?_ ?_
  rotate_left
  · (intro w hSw; (try dsimp only at hSw); go_simp; try with_reducible rfl)
  try simp only [Act.put, q0, q1, q2]
  refine tk 15 ⟨some 42, .binOp .eql 3 (.tmp 41) (.const (.int .i64 0)) 3, 4, "isa.go:40", #[eD 14, eG 12], some (12, true)⟩ (v := ?_) hHeld ?_ ?_
  rotate_left
  · (intro w hSw; (try dsimp only at hSw); go_simp; try with_reducible rfl)
  try simp only [Act.put, q0, q1, q2]
  refine tk 16 ⟨some 43, .move (.tmp 42), 4, "isa.go:40", #[eD 15, eC 12, eG 12], some (12, true)⟩ (v := ?_) hHeld ?_ ?_
  rotate_left
  · (intro w hSw; (try dsimp only at hSw); go_simp; try with_reducible rfl)
  try simp only [Act.put, q0, q1, q2]
  refine tu 17 ⟨some 44, .fieldAddr 57 (.tmp 1) 1, 0, "isa.go:40", #[eG 16], some (16, false)⟩ hHeld ?_
  try simp only [Act.put, q0, q1, q2]
  refine tu 18 ⟨some 45, .load 3 (.tmp 44), 3, "isa.go:40", #[eD 17, eG 16], some (16, false)⟩ hHeld ?_
  try simp only [Act.put, q0, q1, q2]
  refine tu 19 ⟨some 46, .call { callee := .value (.func 107), args := #[.tmp 45], argTypes := #[3] }, 4, "isa.go:40", #[eD 18, eC 16, eG 16], some (16, false)⟩ hHeld ?_
  try simp only [Act.put, q0, q1, q2]
  refine tk 20 ⟨some 47, .pick (.tmp 43) (.const (.bool true)) (.tmp 46), 4, "isa.go:40", #[eD 16, eD 19, eG 12], some (12, true)⟩ (v := ?_) hHeld ?_ ?_
  rotate_left
  · (intro w hSw; (try dsimp only at hSw); go_simp; try with_reducible rfl)
  try simp only [Act.put, q0, q1, q2]
  refine tk 21 ⟨some 48, .pick (.tmp 39) (.tmp 47) (.const (.bool false)), 4, "isa.go:40", #[eD 12, eD 20], none⟩ (v := ?_) hHeld ?_ ?_
  rotate_left
  · (intro w hSw; (try dsimp only at hSw); go_simp; try with_reducible rfl)
  try simp only [Act.put, q0, q1, q2]
  refine tk 22 ⟨some 49, .build 57 #[(0, .tmp 28), (1, .tmp 30), (2, .tmp 32), (3, .tmp 34), (5, .tmp 36), (6, .tmp 48)], 57, "isa.go:40", #[eD 1, eD 3, eD 5, eD 7, eD 9, eD 21], none⟩ (v := ?_) hHeld ?_ ?_
  rotate_left
  · (intro w hSw; (try dsimp only at hSw); go_simp; try with_reducible rfl)
  try simp only [Act.put, q0, q1, q2]
  refine wpAnyH_ready (rs := [23]) (by kernel_rfl) (by simp) ?_
  refine AllReadyH.cons (o := ⟨none, .store 57 (.tmp 2) (.tmp 49), 0, "isa.go:40", #[eD 22, eC 19, eP 0, eP 1, eP 2, eP 3, eP 4, eP 5, eP 6, eP 7, eP 8, eP 9, eP 10, eP 11, eP 12, eP 13, eP 14, eP 15, eP 16, eP 17, eP 18, eP 19, eP 20, eP 21, eP 22], none⟩) rfl (fun K hK => ?_) AllReadyH.nil
  obtain ⟨c0, c1, c2, c3, c4, c5, c6⟩ := (HX2.out.kept hK5).cells
  obtain ⟨f0, f1, f2, f3, f4, f5, f6⟩ := (HX2.out.kept hK5).free
  go_simp
  clear hHeld
  refine hK.out _ _ ?_ (fun hHeld => ?_)
  · exact ((HX1.out.kept hK5).other (by omega)).cells
  clear hK K
  try simp only [Act.put, q0, q1, q2]
  refine wpAnyH_done (by kernel_rfl) ?_ _
  have R := (HX2.out.kept hK5).stored (k' := 2) (op' := 0) (a' := a) (b' := I.nb 0 b) (c' := 0) (i' := i) (u' := true)
  have RK := (HB.out.trans hK5).store7 (B' := w.heap.size + 1) (by omega) (2) (0) (a) (I.nb 0 b) (0) (i) (true)
  unfold store7 at R RK
  generalize (((((((w5.setCell ⟨w.heap.size + 1, 0, none⟩ (.int .i64 (2))).setCell ⟨w.heap.size + 1, 1, none⟩ (.int .i64 (0))).setCell ⟨w.heap.size + 1, 2, none⟩ (.int .i64 (a))).setCell ⟨w.heap.size + 1, 3, none⟩ (.int .i64 (I.nb 0 b))).setCell ⟨w.heap.size + 1, 4, none⟩ (.int .i64 (0))).setCell ⟨w.heap.size + 1, 5, none⟩ (.int .i64 (i))).setCell ⟨w.heap.size + 1, 6, none⟩ (.bool (true))) = w7 at R RK ⊢
  obtain ⟨r0, r1, r2, r3, r4, r5, r6⟩ := R.cells
  clear R hK5 HB HX1 HX2 hHeld
  have RK := Lib.hid RK
  go_wp2_with fail
  exact bodyPost_ret (v := .agg #[.int .i64 2, .int .i64 0, .int .i64 a, .int .i64 (I.nb 0 b), .int .i64 0, .int .i64 i, .bool true]) (by simp [results, Tryz.results93, go_sem, *]) rfl ⟨rfl, RK.out⟩
set_option maxHeartbeats 2000000 in
theorem named_2t (op a b c i : Int) (hz : (op == 0) = false) (w : World) :
    Calls Tryz.prog 93 #[.agg #[.int .i64 2, .int .i64 op, .int .i64 a, .int .i64 b, .int .i64 c, .int .i64 i, .bool true]] w fun e w' => e = .returned (.agg #[.int .i64 2, .int .i64 op, .int .i64 a, .int .i64 (I.nb op b), .int .i64 0, .int .i64 i, .bool (I.carry op)]) ∧ Kept w w' := by
  have hK0 := Kept.refl ((w.alloc (.cells #[.int .i64 2, .int .i64 op, .int .i64 a, .int .i64 b, .int .i64 c, .int .i64 i, .bool true] 57)).alloc (.cells #[.int .i64 0, .int .i64 0, .int .i64 0, .int .i64 0, .int .i64 0, .int .i64 0, .bool false] 57))
  have X1 := (Box.new 2 op a b c i true w).alloc (.cells #[.int .i64 0, .int .i64 0, .int .i64 0, .int .i64 0, .int .i64 0, .int .i64 0, .bool false] 57)
  have X2 := size_alloc1 w (.cells #[.int .i64 2, .int .i64 op, .int .i64 a, .int .i64 b, .int .i64 c, .int .i64 i, .bool true] 57) ▸ Box.new 0 0 0 0 0 0 false (w.alloc (.cells #[.int .i64 2, .int .i64 op, .int .i64 a, .int .i64 b, .int .i64 c, .int .i64 i, .bool true] 57))
  have hB := show Kept w ((w.alloc (.cells #[.int .i64 2, .int .i64 op, .int .i64 a, .int .i64 b, .int .i64 c, .int .i64 i, .bool true] 57)).alloc (.cells #[.int .i64 0, .int .i64 0, .int .i64 0, .int .i64 0, .int .i64 0, .int .i64 0, .bool false] 57)) from ((Kept.refl w).alloc _ _).alloc _ _
  go_enter Tryz.func93, Tryz.ntmps93
  go_wp2_with fail
  generalize ((w.alloc (.cells #[.int .i64 2, .int .i64 op, .int .i64 a, .int .i64 b, .int .i64 c, .int .i64 i, .bool true] 57)).alloc (.cells #[.int .i64 0, .int .i64 0, .int .i64 0, .int .i64 0, .int .i64 0, .int .i64 0, .bool false] 57)) = wB at hK0 hB X1 X2
  have HB := Lib.hid hB
  have HX1 := Lib.hid X1
  have HX2 := Lib.hid X2
  clear hB X1 X2
  refine wp_region_held_drew (S := fun w' => w'.cell? ⟨w.heap.size, 0, none⟩ = some (.int .i64 2) ∧ w'.cell? ⟨w.heap.size, 1, none⟩ = some (.int .i64 op) ∧ w'.cell? ⟨w.heap.size, 2, none⟩ = some (.int .i64 a) ∧ w'.cell? ⟨w.heap.size, 3, none⟩ = some (.int .i64 b) ∧ w'.cell? ⟨w.heap.size, 4, none⟩ = some (.int .i64 c) ∧ w'.cell? ⟨w.heap.size, 5, none⟩ = some (.int .i64 i) ∧ w'.cell? ⟨w.heap.size, 6, none⟩ = some (.bool true)) (by kernel_rfl) ?_ (fun hHeld => ?_)
  · exact (HX1.out.kept hK0.drew).cells
  refine tk 0 ⟨some 27, .fieldAddr 57 (.tmp 1) 0, 0, "isa.go:40", #[], none⟩ (v := ?_) hHeld ?_ ?_
  rotate_left
  · (intro w hSw; (try dsimp only at hSw); go_simp; try with_reducible rfl)
  try simp only [Act.put, q0, q1, q2]
  refine tk 1 ⟨some 28, .load 3 (.tmp 27), 3, "isa.go:40", #[eD 0], none⟩ (v := ?_) hHeld ?_ ?_
  rotate_left
  · (intro w hSw; (try dsimp only at hSw); go_simp; try with_reducible rfl)
  try simp only [Act.put, q0, q1, q2]
  refine tk 2 ⟨some 29, .fieldAddr 57 (.tmp 1) 1, 0, "isa.go:40", #[], none⟩ (v := ?_) hHeld ?_ ?_
  rotate_left
  · (intro w hSw; (try dsimp only at hSw); go_simp; try with_reducible rfl)
  try simp only [Act.put, q0, q1, q2]
  refine tk 3 ⟨some 30, .load 3 (.tmp 29), 3, "isa.go:40", #[eD 2], none⟩ (v := ?_) hHeld ?_ ?_
  rotate_left
  · (intro w hSw; (try dsimp only at hSw); go_simp; try with_reducible rfl)
  try simp only [Act.put, q0, q1, q2]
  refine tk 4 ⟨some 31, .fieldAddr 57 (.tmp 1) 2, 0, "isa.go:40", #[], none⟩ (v := ?_) hHeld ?_ ?_
  rotate_left
  · (intro w hSw; (try dsimp only at hSw); go_simp; try with_reducible rfl)
  try simp only [Act.put, q0, q1, q2]
  refine tk 5 ⟨some 32, .load 3 (.tmp 31), 3, "isa.go:40", #[eD 4], none⟩ (v := ?_) hHeld ?_ ?_
  rotate_left
  · (intro w hSw; (try dsimp only at hSw); go_simp; try with_reducible rfl)
  try simp only [Act.put, q0, q1, q2]
  refine tk 6 ⟨some 33, .load 57 (.tmp 1), 57, "isa.go:40", #[], none⟩ (v := ?_) hHeld ?_ ?_
  rotate_left
  · (intro w hSw; (try dsimp only at hSw); go_simp; try with_reducible rfl)
  try simp only [Act.put, q0, q1, q2]
  refine tk 8 ⟨some 35, .fieldAddr 57 (.tmp 1) 5, 0, "isa.go:40", #[], none⟩ (v := ?_) hHeld ?_ ?_
  rotate_left
  · (intro w hSw; (try dsimp only at hSw); go_simp; try with_reducible rfl)
  try simp only [Act.put, q0, q1, q2]
  refine tk 9 ⟨some 36, .load 3 (.tmp 35), 3, "isa.go:40", #[eD 8], none⟩ (v := ?_) hHeld ?_ ?_
  rotate_left
  · (intro w hSw; (try dsimp only at hSw); go_simp; try with_reducible rfl)
  try simp only [Act.put, q0, q1, q2]
  refine tk 10 ⟨some 37, .fieldAddr 57 (.tmp 1) 6, 0, "isa.go:40", #[], none⟩ (v := ?_) hHeld ?_ ?_
  rotate_left
  · (intro w hSw; (try dsimp only at hSw); go_simp; try with_reducible rfl)
  try simp only [Act.put, q0, q1, q2]
  refine tk 11 ⟨some 38, .load 4 (.tmp 37), 4, "isa.go:40", #[eD 10], none⟩ (v := ?_) hHeld ?_ ?_
  rotate_left
  · (intro w hSw; (try dsimp only at hSw); go_simp; try with_reducible rfl)
  try simp only [Act.put, q0, q1, q2]
  refine wpAnyH_ready (rs := [7]) (by kernel_rfl) (by simp) ?_
  refine AllReadyH.cons (o := ⟨some 34, .call { callee := .value (.func 106), args := #[.tmp 33], argTypes := #[57] }, 3, "isa.go:40", #[eD 6], none⟩) rfl (fun K hK => ?_) AllReadyH.nil
  go_simp
  go_at_call 106
  refine (namedB_any _ _ _ _ _ _ _ _).mono ?_
  rintro e w5 ⟨rfl, hK5⟩
  replace hK5 := Kept.trans (a := wB) hK0.drew hK5
  clear hHeld
  refine hK.out _ _ ?_ (fun hHeld => ?_)
  · exact (HX1.out.kept hK5).cells
  clear hK K
  try simp only [Act.put, q0, q1, q2]
  refine tk 12 ⟨some 39, .move (.tmp 38), 4, "isa.go:40", #[eD 11, eC 7], none⟩ (v := ?_) hHeld ?_ ?_
  rotate_left
  · (intro w hSw; (try dsimp only at hSw); go_simp; try with_reducible rfl)
  try simp only [Act.put, q0, q1, q2]
  refine tk 13 ⟨some 40, .fieldAddr 57 (.tmp 1) 1, 0, "isa.go:40", #[eG 12], some (12, true)⟩ (v := ?_) hHeld ?_ ?_
  rotate_left
  · (intro w hSw; (try dsimp only at hSw); go_simp; try with_reducible rfl)
  try simp only [Act.put, q0, q1, q2]
  refine tk 14 ⟨some 41, .load 3 (.tmp 40), 3, "isa.go:40", #[eD 13, eG 12], some (12, true)⟩ (v := ?_) hHeld ?_ ?_
  rotate_left
  · (intro w hSw; (try dsimp only at hSw); go_simp; try with_reducible rfl)
  try simp only [Act.put, q0, q1, q2]
  refine tk 15 ⟨some 42, .binOp .eql 3 (.tmp 41) (.const (.int .i64 0)) 3, 4, "isa.go:40", #[eD 14, eG 12], some (12, true)⟩ (v := ?_) hHeld ?_ ?_
  rotate_left
  · (intro w hSw; (try dsimp only at hSw); go_simp; try with_reducible rfl)
  try simp only [Act.put, q0, q1, q2]
  refine tk 16 ⟨some 43, .move (.tmp 42), 4, "isa.go:40", #[eD 15, eC 12, eG 12], some (12, true)⟩ (v := ?_) hHeld ?_ ?_
  rotate_left
  · (intro w hSw; (try dsimp only at hSw); go_simp; try with_reducible rfl)
  try simp only [Act.put, q0, q1, q2]
  refine tk 17 ⟨some 44, .fieldAddr 57 (.tmp 1) 1, 0, "isa.go:40", #[eG 16], some (16, false)⟩ (v := ?_) hHeld ?_ ?_
  rotate_left
  · (intro w hSw; (try dsimp only at hSw); go_simp; try with_reducible rfl)
  try simp only [Act.put, q0, q1, q2]
  refine tk 18 ⟨some 45, .load 3 (.tmp 44), 3, "isa.go:40", #[eD 17, eG 16], some (16, false)⟩ (v := ?_) hHeld ?_ ?_
  rotate_left
  · (intro w hSw; (try dsimp only at hSw); go_simp; try with_reducible rfl)
  try simp only [Act.put, q0, q1, q2]
  refine wpAnyH_ready (rs := [19]) (by kernel_rfl) (by simp) ?_
  refine AllReadyH.cons (o := ⟨some 46, .call { callee := .value (.func 107), args := #[.tmp 45], argTypes := #[3] }, 4, "isa.go:40", #[eD 18, eC 16, eG 16], some (16, false)⟩) rfl (fun K hK => ?_) AllReadyH.nil
  go_simp
  go_at_call 107
  refine (hasCarry_any _ _).mono ?_
  rintro e w6 ⟨rfl, rfl⟩
  clear hHeld
  refine hK.out _ _ ?_ (fun hHeld => ?_)
  · exact (HX1.out.kept hK5).cells
  clear hK K
  try simp only [Act.put, q0, q1, q2]
  refine tk 20 ⟨some 47, .pick (.tmp 43) (.const (.bool true)) (.tmp 46), 4, "isa.go:40", #[eD 16, eD 19, eG 12], some (12, true)⟩ (v := ?_) hHeld ?_ ?_
  rotate_left
  · (intro w hSw; (try dsimp only at hSw); go_simp; try with_reducible rfl)
  try simp only [Act.put, q0, q1, q2]
  refine tk 21 ⟨some 48, .pick (.tmp 39) (.tmp 47) (.const (.bool false)), 4, "isa.go:40", #[eD 12, eD 20], none⟩ (v := ?_) hHeld ?_ ?_
  rotate_left
  · (intro w hSw; (try dsimp only at hSw); go_simp; try with_reducible rfl)
  try simp only [Act.put, q0, q1, q2]
  refine tk 22 ⟨some 49, .build 57 #[(0, .tmp 28), (1, .tmp 30), (2, .tmp 32), (3, .tmp 34), (5, .tmp 36), (6, .tmp 48)], 57, "isa.go:40", #[eD 1, eD 3, eD 5, eD 7, eD 9, eD 21], none⟩ (v := ?_) hHeld ?_ ?_
  rotate_left
  · (intro w hSw; (try dsimp only at hSw); go_simp; try with_reducible rfl)
  try simp only [Act.put, q0, q1, q2]
  refine wpAnyH_ready (rs := [23]) (by kernel_rfl) (by simp) ?_
  refine AllReadyH.cons (o := ⟨none, .store 57 (.tmp 2) (.tmp 49), 0, "isa.go:40", #[eD 22, eC 19, eP 0, eP 1, eP 2, eP 3, eP 4, eP 5, eP 6, eP 7, eP 8, eP 9, eP 10, eP 11, eP 12, eP 13, eP 14, eP 15, eP 16, eP 17, eP 18, eP 19, eP 20, eP 21, eP 22], none⟩) rfl (fun K hK => ?_) AllReadyH.nil
  obtain ⟨c0, c1, c2, c3, c4, c5, c6⟩ := (HX2.out.kept hK5).cells
  obtain ⟨f0, f1, f2, f3, f4, f5, f6⟩ := (HX2.out.kept hK5).free
  go_simp
  clear hHeld
  refine hK.out _ _ ?_ (fun hHeld => ?_)
  · exact ((HX1.out.kept hK5).other (by omega)).cells
  clear hK K
  try simp only [Act.put, q0, q1, q2]
  refine wpAnyH_done (by kernel_rfl) ?_ _
  have R := (HX2.out.kept hK5).stored (k' := 2) (op' := op) (a' := a) (b' := I.nb op b) (c' := 0) (i' := i) (u' := I.carry op)
  have RK := (HB.out.trans hK5).store7 (B' := w.heap.size + 1) (by omega) (2) (op) (a) (I.nb op b) (0) (i) (I.carry op)
  unfold store7 at R RK
  generalize (((((((w5.setCell ⟨w.heap.size + 1, 0, none⟩ (.int .i64 (2))).setCell ⟨w.heap.size + 1, 1, none⟩ (.int .i64 (op))).setCell ⟨w.heap.size + 1, 2, none⟩ (.int .i64 (a))).setCell ⟨w.heap.size + 1, 3, none⟩ (.int .i64 (I.nb op b))).setCell ⟨w.heap.size + 1, 4, none⟩ (.int .i64 (0))).setCell ⟨w.heap.size + 1, 5, none⟩ (.int .i64 (i))).setCell ⟨w.heap.size + 1, 6, none⟩ (.bool (I.carry op))) = w7 at R RK ⊢
  obtain ⟨r0, r1, r2, r3, r4, r5, r6⟩ := R.cells
  clear R hK5 HB HX1 HX2 hHeld
  have RK := Lib.hid RK
  go_wp2_with fail
  exact bodyPost_ret (v := .agg #[.int .i64 2, .int .i64 op, .int .i64 a, .int .i64 (I.nb op b), .int .i64 0, .int .i64 i, .bool (I.carry op)]) (by simp [results, Tryz.results93, go_sem, *]) rfl ⟨rfl, RK.out⟩
theorem named_3 (op a b c i : Int) (u : Bool) (w : World) :
    Calls Tryz.prog 93 #[.agg #[.int .i64 3, .int .i64 op, .int .i64 a, .int .i64 b, .int .i64 c, .int .i64 i, .bool u]] w fun e w' => e = .returned (.agg #[.int .i64 3, .int .i64 0, .int .i64 a, .int .i64 0, .int .i64 0, .int .i64 0, .bool false]) ∧ Kept w w' := by
  go_enter Tryz.func93, Tryz.ntmps93
  go_wp2
  exact bodyPost_ret (v := .agg #[.int .i64 3, .int .i64 0, .int .i64 a, .int .i64 0, .int .i64 0, .int .i64 0, .bool false]) (by simp [results, Tryz.results93, go_sem]) rfl ⟨rfl, ((Kept.refl w).alloc _ _).alloc _ _⟩
theorem named_4 (op a b c i : Int) (u : Bool) (w : World) :
    Calls Tryz.prog 93 #[.agg #[.int .i64 4, .int .i64 op, .int .i64 a, .int .i64 b, .int .i64 c, .int .i64 i, .bool u]] w fun e w' => e = .returned (.agg #[.int .i64 4, .int .i64 0, .int .i64 a, .int .i64 0, .int .i64 0, .int .i64 0, .bool false]) ∧ Kept w w' := by
  go_enter Tryz.func93, Tryz.ntmps93
  go_wp2
  exact bodyPost_ret (v := .agg #[.int .i64 4, .int .i64 0, .int .i64 a, .int .i64 0, .int .i64 0, .int .i64 0, .bool false]) (by simp [results, Tryz.results93, go_sem]) rfl ⟨rfl, ((Kept.refl w).alloc _ _).alloc _ _⟩
theorem named_5 (op a b c i : Int) (u : Bool) (w : World) :
    Calls Tryz.prog 93 #[.agg #[.int .i64 5, .int .i64 op, .int .i64 a, .int .i64 b, .int .i64 c, .int .i64 i, .bool u]] w fun e w' => e = .returned (.agg #[.int .i64 5, .int .i64 op, .int .i64 a, .int .i64 b, .int .i64 0, .int .i64 i, .bool false]) ∧ Kept w w' := by
  go_enter Tryz.func93, Tryz.ntmps93
  go_wp2
  exact bodyPost_ret (v := .agg #[.int .i64 5, .int .i64 op, .int .i64 a, .int .i64 b, .int .i64 0, .int .i64 i, .bool false]) (by simp [results, Tryz.results93, go_sem]) rfl ⟨rfl, ((Kept.refl w).alloc _ _).alloc _ _⟩
theorem named_6 (op a b c i : Int) (u : Bool) (w : World) :
    Calls Tryz.prog 93 #[.agg #[.int .i64 6, .int .i64 op, .int .i64 a, .int .i64 b, .int .i64 c, .int .i64 i, .bool u]] w fun e w' => e = .returned (.agg #[.int .i64 6, .int .i64 op, .int .i64 0, .int .i64 0, .int .i64 c, .int .i64 0, .bool u]) ∧ Kept w w' := by
  go_enter Tryz.func93, Tryz.ntmps93
  go_wp2
  exact bodyPost_ret (v := .agg #[.int .i64 6, .int .i64 op, .int .i64 0, .int .i64 0, .int .i64 c, .int .i64 0, .bool u]) (by simp [results, Tryz.results93, go_sem]) rfl ⟨rfl, ((Kept.refl w).alloc _ _).alloc _ _⟩
theorem named_7 (op a b c i : Int) (u : Bool) (w : World) :
    Calls Tryz.prog 93 #[.agg #[.int .i64 7, .int .i64 op, .int .i64 a, .int .i64 b, .int .i64 c, .int .i64 i, .bool u]] w fun e w' => e = .returned (.agg #[.int .i64 7, .int .i64 op, .int .i64 0, .int .i64 0, .int .i64 0, .int .i64 i, .bool u]) ∧ Kept w w' := by
  go_enter Tryz.func93, Tryz.ntmps93
  go_wp2
  exact bodyPost_ret (v := .agg #[.int .i64 7, .int .i64 op, .int .i64 0, .int .i64 0, .int .i64 0, .int .i64 i, .bool u]) (by simp [results, Tryz.results93, go_sem]) rfl ⟨rfl, ((Kept.refl w).alloc _ _).alloc _ _⟩
theorem named_k (k op a b c i : Int) (u : Bool) (h1 : (k == 1) = false) (h2 : (k == 2) = false) (h3 : (k == 3) = false) (h4 : (k == 4) = false) (h5 : (k == 5) = false) (h6 : (k == 6) = false) (h7 : (k == 7) = false) (w : World) :
    Calls Tryz.prog 93 #[.agg #[.int .i64 k, .int .i64 op, .int .i64 a, .int .i64 b, .int .i64 c, .int .i64 i, .bool u]] w fun e w' => e = .returned (.agg #[.int .i64 0, .int .i64 0, .int .i64 0, .int .i64 0, .int .i64 0, .int .i64 0, .bool false]) ∧ Kept w w' := by
  go_enter Tryz.func93, Tryz.ntmps93
  go_wp2
  exact bodyPost_ret (v := .agg #[.int .i64 0, .int .i64 0, .int .i64 0, .int .i64 0, .int .i64 0, .int .i64 0, .bool false]) (by simp [results, Tryz.results93, go_sem]) rfl ⟨rfl, ((Kept.refl w).alloc _ _).alloc _ _⟩
theorem named_any (k op a b c i : Int) (u : Bool) (w : World) :
    Calls Tryz.prog 93 #[.agg #[.int .i64 k, .int .i64 op, .int .i64 a, .int .i64 b, .int .i64 c, .int .i64 i, .bool u]] w fun e w' => e = .returned (.agg #[.int .i64 (I.named ⟨k, op, a, b, c, i, u⟩).k, .int .i64 (I.named ⟨k, op, a, b, c, i, u⟩).op, .int .i64 (I.named ⟨k, op, a, b, c, i, u⟩).a, .int .i64 (I.named ⟨k, op, a, b, c, i, u⟩).b, .int .i64 (I.named ⟨k, op, a, b, c, i, u⟩).c, .int .i64 (I.named ⟨k, op, a, b, c, i, u⟩).i, .bool (I.named ⟨k, op, a, b, c, i, u⟩).u]) ∧ Kept w w' := by
  rcases I.kinds k with rfl | rfl | rfl | rfl | rfl | rfl | rfl | ⟨h1, h2, h3, h4, h5, h6, h7⟩
  · cases u
    · exact named_1f op a b c i w
    · exact named_1t op a b c i w
  · cases u
    · exact named_2f op a b c i w
    · by_cases h0 : op = 0
      · subst h0; exact named_2z a b c i w
      · have hz : (op == 0) = false := by simpa using h0
        have e : (I.named ⟨2, op, a, b, c, i, true⟩).u = I.carry op := by simp [I.named, hz]
        rw [e]
        exact named_2t op a b c i hz w
  · exact named_3 op a b c i u w
  · exact named_4 op a b c i u w
  · exact named_5 op a b c i u w
  · exact named_6 op a b c i u w
  · exact named_7 op a b c i u w
  · have e : I.named ⟨k, op, a, b, c, i, u⟩ = ⟨0, 0, 0, 0, 0, 0, false⟩ := by simp only [beq_eq_false_iff_ne] at *; simp [I.named, *]
    rw [e]
    exact named_k k op a b c i u h1 h2 h3 h4 h5 h6 h7 w
end Go.Proofs.YtlmddkciamdldaaGreat

/-
  The contract of May.
-/
namespace Go.Proofs.YtlmddkciamdldaaGreat
open Go.RowKit
set_option linter.unusedVariables false
set_option linter.unusedSimpArgs false
set_option maxRecDepth 100000
theorem I.cmp_ne {k op a b c i k' op' a' b' c' i' : Int} {u u' : Bool} (h : ¬ (k = k' ∧ op = op' ∧ a = a' ∧ b = b' ∧ c = c' ∧ i = i' ∧ u = u')) (w : World) :
    (if k = k' then if op = op' then if a = a' then if b = b' then if c = c' then if i = i' then if u = u' then (Result.ok (Next.value (Value.bool true)) w : Result Next) else Result.ok (Next.value (Value.bool false)) w else Result.ok (Next.value (Value.bool false)) w else Result.ok (Next.value (Value.bool false)) w else Result.ok (Next.value (Value.bool false)) w else Result.ok (Next.value (Value.bool false)) w else Result.ok (Next.value (Value.bool false)) w else Result.ok (Next.value (Value.bool false)) w) = Result.ok (Next.value (Value.bool false)) w := by
  repeat' split
  all_goals first | rfl | (exfalso; exact h ⟨by assumption, by assumption, by assumption, by assumption, by assumption, by assumption, by assumption⟩)
set_option maxHeartbeats 2000000 in
theorem may_0 (k op a b c i : Int) (u : Bool) (w : World)
    (HN : Hid (∀ w, Calls Tryz.prog 93 #[.agg #[.int .i64 k, .int .i64 op, .int .i64 a, .int .i64 b, .int .i64 c, .int .i64 i, .bool u]] w fun e w' => e = .returned (.agg #[.int .i64 k, .int .i64 op, .int .i64 a, .int .i64 b, .int .i64 c, .int .i64 i, .bool u]) ∧ Kept w w'))
    (HO : Hid (∀ w, Calls Tryz.prog 94 #[.agg #[.int .i64 k, .int .i64 op, .int .i64 a, .int .i64 b, .int .i64 c, .int .i64 i, .bool u]] w fun e w' => e = .returned (.bool true) ∧ Kept w w'))
    (HA : Hid (∀ w, Calls Tryz.prog 95 #[.int .i64 a] w fun e w' => e = .returned (.bool true) ∧ w = w'))
    (HRB : Hid (∀ w, Calls Tryz.prog 95 #[.int .i64 b] w fun e w' => e = .returned (.bool true) ∧ w = w'))
    (HC : Hid (∀ w, Calls Tryz.prog 95 #[.int .i64 c] w fun e w' => e = .returned (.bool true) ∧ w = w'))
    (HI : Hid (∀ w, Calls Tryz.prog 96 #[.agg #[.int .i64 k, .int .i64 op, .int .i64 a, .int .i64 b, .int .i64 c, .int .i64 i, .bool u]] w fun e w' => e = .returned (.bool true) ∧ Kept w w')) :
    Calls Tryz.prog 78 #[.agg #[.int .i64 k, .int .i64 op, .int .i64 a, .int .i64 b, .int .i64 c, .int .i64 i, .bool u]] w fun e w' => e = .returned (.bool true) ∧ Kept w w' := by
  have hK0 := Kept.refl (w.alloc (.cells #[.int .i64 k, .int .i64 op, .int .i64 a, .int .i64 b, .int .i64 c, .int .i64 i, .bool u] 57))
  have X1 := Box.new k op a b c i u w
  have hB := show Kept w (w.alloc (.cells #[.int .i64 k, .int .i64 op, .int .i64 a, .int .i64 b, .int .i64 c, .int .i64 i, .bool u] 57)) from (Kept.refl w).alloc _ _
  go_enter Tryz.func78, Tryz.ntmps78
  go_wp2_with fail
  generalize (w.alloc (.cells #[.int .i64 k, .int .i64 op, .int .i64 a, .int .i64 b, .int .i64 c, .int .i64 i, .bool u] 57)) = wB at hK0 hB X1
  have HB := Lib.hid hB
  have HX1 := Lib.hid X1
  clear hB X1
  refine wp_region_held_drew (S := fun w' => w'.cell? ⟨w.heap.size, 0, none⟩ = some (.int .i64 k) ∧ w'.cell? ⟨w.heap.size, 1, none⟩ = some (.int .i64 op) ∧ w'.cell? ⟨w.heap.size, 2, none⟩ = some (.int .i64 a) ∧ w'.cell? ⟨w.heap.size, 3, none⟩ = some (.int .i64 b) ∧ w'.cell? ⟨w.heap.size, 4, none⟩ = some (.int .i64 c) ∧ w'.cell? ⟨w.heap.size, 5, none⟩ = some (.int .i64 i) ∧ w'.cell? ⟨w.heap.size, 6, none⟩ = some (.bool u)) (by kernel_rfl) ?_ (fun hHeld => ?_)
  · exact (HX1.out.kept hK0.drew).cells
  refine tk 0 ⟨some 3, .load 57 (.tmp 1), 57, "isa.go:31", #[], none⟩ (v := ?_) hHeld ?_ ?_
  rotate_left
  · (intro w hSw; (try dsimp only at hSw); go_simp; try with_reducible rfl)
  try simp only [Act.put, q0, q1, q2]
  refine tk 1 ⟨some 4, .load 57 (.tmp 1), 57, "isa.go:31", #[], none⟩ (v := ?_) hHeld ?_ ?_
  rotate_left
  · (intro w hSw; (try dsimp only at hSw); go_simp; try with_reducible rfl)
  try simp only [Act.put, q0, q1, q2]
  refine wpAnyH_ready (rs := [2]) (by kernel_rfl) (by simp) ?_
  refine AllReadyH.cons (o := ⟨some 5, .call { callee := .value (.func 93), args := #[.tmp 4], argTypes := #[57] }, 57, "isa.go:31", #[eD 1], none⟩) rfl (fun K hK => ?_) AllReadyH.nil
  go_simp
  go_at_call 93
  refine (HN.out _).mono ?_
  rintro e w5 ⟨rfl, hK5⟩
  replace hK5 := Kept.trans hK0.drew hK5
  clear hHeld
  refine hK.out _ _ ?_ (fun hHeld => ?_)
  · exact (HX1.out.kept hK5).cells
  clear hK K
  try simp only [Act.put, q0, q1, q2]
  refine tk 3 ⟨some 6, .binOp .eql 57 (.tmp 3) (.tmp 5) 57, 4, "isa.go:31", #[eD 0, eD 2], none⟩ (v := ?_) hHeld ?_ ?_
  rotate_left
  · (intro w hSw; (try dsimp only at hSw); go_simp; try with_reducible rfl)
  try simp only [Act.put, q0, q1, q2]
  refine tk 4 ⟨some 7, .move (.tmp 6), 4, "isa.go:31", #[eD 3, eC 2], none⟩ (v := ?_) hHeld ?_ ?_
  rotate_left
  · (intro w hSw; (try dsimp only at hSw); go_simp; try with_reducible rfl)
  try simp only [Act.put, q0, q1, q2]
  refine tk 5 ⟨some 8, .load 57 (.tmp 1), 57, "isa.go:31", #[eG 4], some (4, true)⟩ (v := ?_) hHeld ?_ ?_
  rotate_left
  · (intro w hSw; (try dsimp only at hSw); go_simp; try with_reducible rfl)
  try simp only [Act.put, q0, q1, q2]
  refine wpAnyH_ready (rs := [6]) (by kernel_rfl) (by simp) ?_
  refine AllReadyH.cons (o := ⟨some 9, .call { callee := .value (.func 94), args := #[.tmp 8], argTypes := #[57] }, 4, "isa.go:31", #[eD 5, eC 4, eG 4], some (4, true)⟩) rfl (fun K hK => ?_) AllReadyH.nil
  go_simp
  go_at_call 94
  refine (HO.out _).mono ?_
  rintro e w6 ⟨rfl, hK6⟩
  replace hK6 := hK5.trans hK6
  clear hK5
  have hK5 := hK6
  clear hK6
  clear hHeld
  refine hK.out _ _ ?_ (fun hHeld => ?_)
  · exact (HX1.out.kept hK5).cells
  clear hK K
  try simp only [Act.put, q0, q1, q2]
  refine tk 7 ⟨some 10, .pick (.tmp 7) (.tmp 9) (.const (.bool false)), 4, "isa.go:31", #[eD 4, eD 6], none⟩ (v := ?_) hHeld ?_ ?_
  rotate_left
  · (intro w hSw; (try dsimp only at hSw); go_simp; try with_reducible rfl)
  try simp only [Act.put, q0, q1, q2]
  refine tk 8 ⟨some 11, .move (.tmp 10), 4, "isa.go:31", #[eD 7, eC 6], none⟩ (v := ?_) hHeld ?_ ?_
  rotate_left
  · (intro w hSw; (try dsimp only at hSw); go_simp; try with_reducible rfl)
  try simp only [Act.put, q0, q1, q2]
  refine tk 9 ⟨some 12, .fieldAddr 57 (.tmp 1) 2, 0, "isa.go:31", #[eG 8], some (8, true)⟩ (v := ?_) hHeld ?_ ?_
  rotate_left
  · (intro w hSw; (try dsimp only at hSw); go_simp; try with_reducible rfl)
  try simp only [Act.put, q0, q1, q2]
  refine tk 10 ⟨some 13, .load 3 (.tmp 12), 3, "isa.go:31", #[eD 9, eG 8], some (8, true)⟩ (v := ?_) hHeld ?_ ?_
  rotate_left
  · (intro w hSw; (try dsimp only at hSw); go_simp; try with_reducible rfl)
  try simp only [Act.put, q0, q1, q2]
  refine wpAnyH_ready (rs := [11]) (by kernel_rfl) (by simp) ?_
  refine AllReadyH.cons (o := ⟨some 14, .call { callee := .value (.func 95), args := #[.tmp 13], argTypes := #[3] }, 4, "isa.go:31", #[eD 10, eC 8, eG 8], some (8, true)⟩) rfl (fun K hK => ?_) AllReadyH.nil
  go_simp
  go_at_call 95
  refine (HA.out _).mono ?_
  rintro e w6 ⟨rfl, rfl⟩
  clear hHeld
  refine hK.out _ _ ?_ (fun hHeld => ?_)
  · exact (HX1.out.kept hK5).cells
  clear hK K
  try simp only [Act.put, q0, q1, q2]
  refine tk 12 ⟨some 15, .pick (.tmp 11) (.tmp 14) (.const (.bool false)), 4, "isa.go:31", #[eD 8, eD 11], none⟩ (v := ?_) hHeld ?_ ?_
  rotate_left
  · (intro w hSw; (try dsimp only at hSw); go_simp; try with_reducible rfl)
  try simp only [Act.put, q0, q1, q2]
  refine tk 13 ⟨some 16, .move (.tmp 15), 4, "isa.go:31", #[eD 12, eC 11], none⟩ (v := ?_) hHeld ?_ ?_
  rotate_left
  · (intro w hSw; (try dsimp only at hSw); go_simp; try with_reducible rfl)
  try simp only [Act.put, q0, q1, q2]
  refine tk 14 ⟨some 17, .fieldAddr 57 (.tmp 1) 3, 0, "isa.go:31", #[eG 13], some (13, true)⟩ (v := ?_) hHeld ?_ ?_
  rotate_left
  · (intro w hSw; (try dsimp only at hSw); go_simp; try with_reducible rfl)
  try simp only [Act.put, q0, q1, q2]
  refine tk 15 ⟨some 18, .load 3 (.tmp 17), 3, "isa.go:31", #[eD 14, eG 13], some (13, true)⟩ (v := ?_) hHeld ?_ ?_
  rotate_left
  · (intro w hSw; (try dsimp only at hSw); go_simp; try with_reducible rfl)
  try simp only [Act.put, q0, q1, q2]
  refine wpAnyH_ready (rs := [16]) (by kernel_rfl) (by simp) ?_
  refine AllReadyH.cons (o := ⟨some 19, .call { callee := .value (.func 95), args := #[.tmp 18], argTypes := #[3] }, 4, "isa.go:31", #[eD 15, eC 13, eG 13], some (13, true)⟩) rfl (fun K hK => ?_) AllReadyH.nil
  go_simp
  go_at_call 95
  refine (HRB.out _).mono ?_
  rintro e w6 ⟨rfl, rfl⟩
  clear hHeld
  refine hK.out _ _ ?_ (fun hHeld => ?_)
  · exact (HX1.out.kept hK5).cells
  clear hK K
  try simp only [Act.put, q0, q1, q2]
  refine tk 17 ⟨some 20, .pick (.tmp 16) (.tmp 19) (.const (.bool false)), 4, "isa.go:31", #[eD 13, eD 16], none⟩ (v := ?_) hHeld ?_ ?_
  rotate_left
  · (intro w hSw; (try dsimp only at hSw); go_simp; try with_reducible rfl)
  try simp only [Act.put, q0, q1, q2]
  refine tk 18 ⟨some 21, .move (.tmp 20), 4, "isa.go:31", #[eD 17, eC 16], none⟩ (v := ?_) hHeld ?_ ?_
  rotate_left
  · (intro w hSw; (try dsimp only at hSw); go_simp; try with_reducible rfl)
  try simp only [Act.put, q0, q1, q2]
  refine tk 19 ⟨some 22, .fieldAddr 57 (.tmp 1) 4, 0, "isa.go:31", #[eG 18], some (18, true)⟩ (v := ?_) hHeld ?_ ?_
  rotate_left
  · (intro w hSw; (try dsimp only at hSw); go_simp; try with_reducible rfl)
  try simp only [Act.put, q0, q1, q2]
  refine tk 20 ⟨some 23, .load 3 (.tmp 22), 3, "isa.go:31", #[eD 19, eG 18], some (18, true)⟩ (v := ?_) hHeld ?_ ?_
  rotate_left
  · (intro w hSw; (try dsimp only at hSw); go_simp; try with_reducible rfl)
  try simp only [Act.put, q0, q1, q2]
  refine wpAnyH_ready (rs := [21]) (by kernel_rfl) (by simp) ?_
  refine AllReadyH.cons (o := ⟨some 24, .call { callee := .value (.func 95), args := #[.tmp 23], argTypes := #[3] }, 4, "isa.go:31", #[eD 20, eC 18, eG 18], some (18, true)⟩) rfl (fun K hK => ?_) AllReadyH.nil
  go_simp
  go_at_call 95
  refine (HC.out _).mono ?_
  rintro e w6 ⟨rfl, rfl⟩
  clear hHeld
  refine hK.out _ _ ?_ (fun hHeld => ?_)
  · exact (HX1.out.kept hK5).cells
  clear hK K
  try simp only [Act.put, q0, q1, q2]
  refine tk 22 ⟨some 25, .pick (.tmp 21) (.tmp 24) (.const (.bool false)), 4, "isa.go:31", #[eD 18, eD 21], none⟩ (v := ?_) hHeld ?_ ?_
  rotate_left
  · (intro w hSw; (try dsimp only at hSw); go_simp; try with_reducible rfl)
  try simp only [Act.put, q0, q1, q2]
  refine tk 23 ⟨some 26, .move (.tmp 25), 4, "isa.go:31", #[eD 22, eC 21], none⟩ (v := ?_) hHeld ?_ ?_
  rotate_left
  · (intro w hSw; (try dsimp only at hSw); go_simp; try with_reducible rfl)
  try simp only [Act.put, q0, q1, q2]
  refine tk 24 ⟨some 27, .load 57 (.tmp 1), 57, "isa.go:31", #[eG 23], some (23, true)⟩ (v := ?_) hHeld ?_ ?_
  rotate_left
  · (intro w hSw; (try dsimp only at hSw); go_simp; try with_reducible rfl)
  try simp only [Act.put, q0, q1, q2]
  refine wpAnyH_ready (rs := [25]) (by kernel_rfl) (by simp) ?_
  refine AllReadyH.cons (o := ⟨some 28, .call { callee := .value (.func 96), args := #[.tmp 27], argTypes := #[57] }, 4, "isa.go:31", #[eD 24, eC 23, eG 23], some (23, true)⟩) rfl (fun K hK => ?_) AllReadyH.nil
  go_simp
  go_at_call 96
  refine (HI.out _).mono ?_
  rintro e w6 ⟨rfl, hK6⟩
  replace hK6 := hK5.trans hK6
  clear hK5
  have hK5 := hK6
  clear hK6
  clear hHeld
  refine hK.out _ _ ?_ (fun hHeld => ?_)
  · exact (HX1.out.kept hK5).cells
  clear hK K
  try simp only [Act.put, q0, q1, q2]
  refine tk 26 ⟨some 29, .pick (.tmp 26) (.tmp 28) (.const (.bool false)), 4, "isa.go:31", #[eD 23, eD 25], none⟩ (v := ?_) hHeld ?_ ?_
  rotate_left
  · (intro w hSw; (try dsimp only at hSw); go_simp; try with_reducible rfl)
  try simp only [Act.put, q0, q1, q2]
  refine tk 27 ⟨some 2, .assign (.tmp 29), 4, "isa.go:31", #[eD 26, eC 25, eP 0, eP 1, eP 2, eP 3, eP 4, eP 5, eP 6, eP 7, eP 8, eP 9, eP 10, eP 11, eP 12, eP 13, eP 14, eP 15, eP 16, eP 17, eP 18, eP 19, eP 20, eP 21, eP 22, eP 23, eP 24, eP 25, eP 26], none⟩ (v := ?_) hHeld ?_ ?_
  rotate_left
  · (intro w hSw; (try dsimp only at hSw); go_simp; try with_reducible rfl)
  try simp only [Act.put, q0, q1, q2]
  refine wpAnyH_done (by kernel_rfl) ?_ _
  go_wp2_with fail
  go_ret
  exact ⟨rfl, HB.out.trans hK5⟩
set_option maxHeartbeats 2000000 in
theorem may_1 (k op a b c i k' op' a' b' c' i' : Int) (u u' : Bool) (w : World) (hne : ¬ (k = k' ∧ op = op' ∧ a = a' ∧ b = b' ∧ c = c' ∧ i = i' ∧ u = u'))
    (HN : Hid (∀ w, Calls Tryz.prog 93 #[.agg #[.int .i64 k, .int .i64 op, .int .i64 a, .int .i64 b, .int .i64 c, .int .i64 i, .bool u]] w fun e w' => e = .returned (.agg #[.int .i64 (k'), .int .i64 (op'), .int .i64 (a'), .int .i64 (b'), .int .i64 (c'), .int .i64 (i'), .bool (u')]) ∧ Kept w w'))
 :
    Calls Tryz.prog 78 #[.agg #[.int .i64 k, .int .i64 op, .int .i64 a, .int .i64 b, .int .i64 c, .int .i64 i, .bool u]] w fun e w' => e = .returned (.bool false) ∧ Kept w w' := by
  have HE := Lib.hid (I.cmp_ne (u := u) hne)
  clear hne
  have hK0 := Kept.refl (w.alloc (.cells #[.int .i64 k, .int .i64 op, .int .i64 a, .int .i64 b, .int .i64 c, .int .i64 i, .bool u] 57))
  have X1 := Box.new k op a b c i u w
  have hB := show Kept w (w.alloc (.cells #[.int .i64 k, .int .i64 op, .int .i64 a, .int .i64 b, .int .i64 c, .int .i64 i, .bool u] 57)) from (Kept.refl w).alloc _ _
  go_enter Tryz.func78, Tryz.ntmps78
  go_wp2_with fail
  generalize (w.alloc (.cells #[.int .i64 k, .int .i64 op, .int .i64 a, .int .i64 b, .int .i64 c, .int .i64 i, .bool u] 57)) = wB at hK0 hB X1
  have HB := Lib.hid hB
  have HX1 := Lib.hid X1
  clear hB X1
  refine wp_region_held_drew (S := fun w' => w'.cell? ⟨w.heap.size, 0, none⟩ = some (.int .i64 k) ∧ w'.cell? ⟨w.heap.size, 1, none⟩ = some (.int .i64 op) ∧ w'.cell? ⟨w.heap.size, 2, none⟩ = some (.int .i64 a) ∧ w'.cell? ⟨w.heap.size, 3, none⟩ = some (.int .i64 b) ∧ w'.cell? ⟨w.heap.size, 4, none⟩ = some (.int .i64 c) ∧ w'.cell? ⟨w.heap.size, 5, none⟩ = some (.int .i64 i) ∧ w'.cell? ⟨w.heap.size, 6, none⟩ = some (.bool u)) (by kernel_rfl) ?_ (fun hHeld => ?_)
  · exact (HX1.out.kept hK0.drew).cells
  refine tk 0 ⟨some 3, .load 57 (.tmp 1), 57, "isa.go:31", #[], none⟩ (v := ?_) hHeld ?_ ?_
  rotate_left
  · (intro w hSw; (try dsimp only at hSw); go_simp; try with_reducible rfl)
  try simp only [Act.put, q0, q1, q2]
  refine tk 1 ⟨some 4, .load 57 (.tmp 1), 57, "isa.go:31", #[], none⟩ (v := ?_) hHeld ?_ ?_
  rotate_left
  · (intro w hSw; (try dsimp only at hSw); go_simp; try with_reducible rfl)
  try simp only [Act.put, q0, q1, q2]
  refine wpAnyH_ready (rs := [2]) (by kernel_rfl) (by simp) ?_
  refine AllReadyH.cons (o := ⟨some 5, .call { callee := .value (.func 93), args := #[.tmp 4], argTypes := #[57] }, 57, "isa.go:31", #[eD 1], none⟩) rfl (fun K hK => ?_) AllReadyH.nil
  go_simp
  go_at_call 93
  refine (HN.out _).mono ?_
  rintro e w5 ⟨rfl, hK5⟩
  replace hK5 := Kept.trans hK0.drew hK5
  clear hHeld
  refine hK.out _ _ ?_ (fun hHeld => ?_)
  · exact (HX1.out.kept hK5).cells
  clear hK K
  try simp only [Act.put, q0, q1, q2]
  refine tk 3 ⟨some 6, .binOp .eql 57 (.tmp 3) (.tmp 5) 57, 4, "isa.go:31", #[eD 0, eD 2], none⟩ (v := ?_) hHeld ?_ ?_
  rotate_left
  · (intro w hSw; (try dsimp only at hSw); go_simp; exact HE.out _)
  try simp only [Act.put, q0, q1, q2]
  refine tk 4 ⟨some 7, .move (.tmp 6), 4, "isa.go:31", #[eD 3, eC 2], none⟩ (v := ?_) hHeld ?_ ?_
  rotate_left
  · (intro w hSw; (try dsimp only at hSw); go_simp; try with_reducible rfl)
  try simp only [Act.put, q0, q1, q2]
  refine tu 5 ⟨some 8, .load 57 (.tmp 1), 57, "isa.go:31", #[eG 4], some (4, true)⟩ hHeld ?_
  try simp only [Act.put, q0, q1, q2]
  refine tu 6 ⟨some 9, .call { callee := .value (.func 94), args := #[.tmp 8], argTypes := #[57] }, 4, "isa.go:31", #[eD 5, eC 4, eG 4], some (4, true)⟩ hHeld ?_
  try simp only [Act.put, q0, q1, q2]
  refine tk 7 ⟨some 10, .pick (.tmp 7) (.tmp 9) (.const (.bool false)), 4, "isa.go:31", #[eD 4, eD 6], none⟩ (v := ?_) hHeld ?_ ?_
  rotate_left
  · (intro w hSw; (try dsimp only at hSw); go_simp; try with_reducible rfl)
  try simp only [Act.put, q0, q1, q2]
  refine tk 8 ⟨some 11, .move (.tmp 10), 4, "isa.go:31", #[eD 7, eC 6], none⟩ (v := ?_) hHeld ?_ ?_
  rotate_left
  · (intro w hSw; (try dsimp only at hSw); go_simp; try with_reducible rfl)
  try simp only [Act.put, q0, q1, q2]
  refine tu 9 ⟨some 12, .fieldAddr 57 (.tmp 1) 2, 0, "isa.go:31", #[eG 8], some (8, true)⟩ hHeld ?_
  try simp only [Act.put, q0, q1, q2]
  refine tu 10 ⟨some 13, .load 3 (.tmp 12), 3, "isa.go:31", #[eD 9, eG 8], some (8, true)⟩ hHeld ?_
  try simp only [Act.put, q0, q1, q2]
  refine tu 11 ⟨some 14, .call { callee := .value (.func 95), args := #[.tmp 13], argTypes := #[3] }, 4, "isa.go:31", #[eD 10, eC 8, eG 8], some (8, true)⟩ hHeld ?_
  try simp only [Act.put, q0, q1, q2]
  refine tk 12 ⟨some 15, .pick (.tmp 11) (.tmp 14) (.const (.bool false)), 4, "isa.go:31", #[eD 8, eD 11], none⟩ (v := ?_) hHeld ?_ ?_
  rotate_left
  · (intro w hSw; (try dsimp only at hSw); go_simp; try with_reducible rfl)
  try simp only [Act.put, q0, q1, q2]
  refine tk 13 ⟨some 16, .move (.tmp 15), 4, "isa.go:31", #[eD 12, eC 11], none⟩ (v := ?_) hHeld ?_ ?_
  rotate_left
  · (intro w hSw; (try dsimp only at hSw); go_simp; try with_reducible rfl)
  try simp only [Act.put, q0, q1, q2]
  refine tu 14 ⟨some 17, .fieldAddr 57 (.tmp 1) 3, 0, "isa.go:31", #[eG 13], some (13, true)⟩ hHeld ?_
  try simp only [Act.put, q0, q1, q2]
  refine tu 15 ⟨some 18, .load 3 (.tmp 17), 3, "isa.go:31", #[eD 14, eG 13], some (13, true)⟩ hHeld ?_
  try simp only [Act.put, q0, q1, q2]
  refine tu 16 ⟨some 19, .call { callee := .value (.func 95), args := #[.tmp 18], argTypes := #[3] }, 4, "isa.go:31", #[eD 15, eC 13, eG 13], some (13, true)⟩ hHeld ?_
  try simp only [Act.put, q0, q1, q2]
  refine tk 17 ⟨some 20, .pick (.tmp 16) (.tmp 19) (.const (.bool false)), 4, "isa.go:31", #[eD 13, eD 16], none⟩ (v := ?_) hHeld ?_ ?_
  rotate_left
  · (intro w hSw; (try dsimp only at hSw); go_simp; try with_reducible rfl)
  try simp only [Act.put, q0, q1, q2]
  refine tk 18 ⟨some 21, .move (.tmp 20), 4, "isa.go:31", #[eD 17, eC 16], none⟩ (v := ?_) hHeld ?_ ?_
  rotate_left
  · (intro w hSw; (try dsimp only at hSw); go_simp; try with_reducible rfl)
  try simp only [Act.put, q0, q1, q2]
  refine tu 19 ⟨some 22, .fieldAddr 57 (.tmp 1) 4, 0, "isa.go:31", #[eG 18], some (18, true)⟩ hHeld ?_
  try simp only [Act.put, q0, q1, q2]
  refine tu 20 ⟨some 23, .load 3 (.tmp 22), 3, "isa.go:31", #[eD 19, eG 18], some (18, true)⟩ hHeld ?_
  try simp only [Act.put, q0, q1, q2]
  refine tu 21 ⟨some 24, .call { callee := .value (.func 95), args := #[.tmp 23], argTypes := #[3] }, 4, "isa.go:31", #[eD 20, eC 18, eG 18], some (18, true)⟩ hHeld ?_
  try simp only [Act.put, q0, q1, q2]
  refine tk 22 ⟨some 25, .pick (.tmp 21) (.tmp 24) (.const (.bool false)), 4, "isa.go:31", #[eD 18, eD 21], none⟩ (v := ?_) hHeld ?_ ?_
  rotate_left
  · (intro w hSw; (try dsimp only at hSw); go_simp; try with_reducible rfl)
  try simp only [Act.put, q0, q1, q2]
  refine tk 23 ⟨some 26, .move (.tmp 25), 4, "isa.go:31", #[eD 22, eC 21], none⟩ (v := ?_) hHeld ?_ ?_
  rotate_left
  · (intro w hSw; (try dsimp only at hSw); go_simp; try with_reducible rfl)
  try simp only [Act.put, q0, q1, q2]
  refine tu 24 ⟨some 27, .load 57 (.tmp 1), 57, "isa.go:31", #[eG 23], some (23, true)⟩ hHeld ?_
  try simp only [Act.put, q0, q1, q2]
  refine tu 25 ⟨some 28, .call { callee := .value (.func 96), args := #[.tmp 27], argTypes := #[57] }, 4, "isa.go:31", #[eD 24, eC 23, eG 23], some (23, true)⟩ hHeld ?_
  try simp only [Act.put, q0, q1, q2]
  refine tk 26 ⟨some 29, .pick (.tmp 26) (.tmp 28) (.const (.bool false)), 4, "isa.go:31", #[eD 23, eD 25], none⟩ (v := ?_) hHeld ?_ ?_
  rotate_left
  · (intro w hSw; (try dsimp only at hSw); go_simp; try with_reducible rfl)
  try simp only [Act.put, q0, q1, q2]
  refine tk 27 ⟨some 2, .assign (.tmp 29), 4, "isa.go:31", #[eD 26, eC 25, eP 0, eP 1, eP 2, eP 3, eP 4, eP 5, eP 6, eP 7, eP 8, eP 9, eP 10, eP 11, eP 12, eP 13, eP 14, eP 15, eP 16, eP 17, eP 18, eP 19, eP 20, eP 21, eP 22, eP 23, eP 24, eP 25, eP 26], none⟩ (v := ?_) hHeld ?_ ?_
  rotate_left
  · (intro w hSw; (try dsimp only at hSw); go_simp; try with_reducible rfl)
  try simp only [Act.put, q0, q1, q2]
  refine wpAnyH_done (by kernel_rfl) ?_ _
  go_wp2_with fail
  go_ret
  exact ⟨rfl, HB.out.trans hK5⟩
set_option maxHeartbeats 2000000 in
theorem may_2 (k op a b c i : Int) (u : Bool) (w : World)
    (HN : Hid (∀ w, Calls Tryz.prog 93 #[.agg #[.int .i64 k, .int .i64 op, .int .i64 a, .int .i64 b, .int .i64 c, .int .i64 i, .bool u]] w fun e w' => e = .returned (.agg #[.int .i64 k, .int .i64 op, .int .i64 a, .int .i64 b, .int .i64 c, .int .i64 i, .bool u]) ∧ Kept w w'))
    (HO : Hid (∀ w, Calls Tryz.prog 94 #[.agg #[.int .i64 k, .int .i64 op, .int .i64 a, .int .i64 b, .int .i64 c, .int .i64 i, .bool u]] w fun e w' => e = .returned (.bool false) ∧ Kept w w')) :
    Calls Tryz.prog 78 #[.agg #[.int .i64 k, .int .i64 op, .int .i64 a, .int .i64 b, .int .i64 c, .int .i64 i, .bool u]] w fun e w' => e = .returned (.bool false) ∧ Kept w w' := by
  have hK0 := Kept.refl (w.alloc (.cells #[.int .i64 k, .int .i64 op, .int .i64 a, .int .i64 b, .int .i64 c, .int .i64 i, .bool u] 57))
  have X1 := Box.new k op a b c i u w
  have hB := show Kept w (w.alloc (.cells #[.int .i64 k, .int .i64 op, .int .i64 a, .int .i64 b, .int .i64 c, .int .i64 i, .bool u] 57)) from (Kept.refl w).alloc _ _
  go_enter Tryz.func78, Tryz.ntmps78
  go_wp2_with fail
  generalize (w.alloc (.cells #[.int .i64 k, .int .i64 op, .int .i64 a, .int .i64 b, .int .i64 c, .int .i64 i, .bool u] 57)) = wB at hK0 hB X1
  have HB := Lib.hid hB
  have HX1 := Lib.hid X1
  clear hB X1
  refine wp_region_held_drew (S := fun w' => w'.cell? ⟨w.heap.size, 0, none⟩ = some (.int .i64 k) ∧ w'.cell? ⟨w.heap.size, 1, none⟩ = some (.int .i64 op) ∧ w'.cell? ⟨w.heap.size, 2, none⟩ = some (.int .i64 a) ∧ w'.cell? ⟨w.heap.size, 3, none⟩ = some (.int .i64 b) ∧ w'.cell? ⟨w.heap.size, 4, none⟩ = some (.int .i64 c) ∧ w'.cell? ⟨w.heap.size, 5, none⟩ = some (.int .i64 i) ∧ w'.cell? ⟨w.heap.size, 6, none⟩ = some (.bool u)) (by kernel_rfl) ?_ (fun hHeld => ?_)
  · exact (HX1.out.kept hK0.drew).cells
  refine tk 0 ⟨some 3, .load 57 (.tmp 1), 57, "isa.go:31", #[], none⟩ (v := ?_) hHeld ?_ ?_
  rotate_left
  · (intro w hSw; (try dsimp only at hSw); go_simp; try with_reducible rfl)
  try simp only [Act.put, q0, q1, q2]
  refine tk 1 ⟨some 4, .load 57 (.tmp 1), 57, "isa.go:31", #[], none⟩ (v := ?_) hHeld ?_ ?_
  rotate_left
  · (intro w hSw; (try dsimp only at hSw); go_simp; try with_reducible rfl)
  try simp only [Act.put, q0, q1, q2]
  refine wpAnyH_ready (rs := [2]) (by kernel_rfl) (by simp) ?_
  refine AllReadyH.cons (o := ⟨some 5, .call { callee := .value (.func 93), args := #[.tmp 4], argTypes := #[57] }, 57, "isa.go:31", #[eD 1], none⟩) rfl (fun K hK => ?_) AllReadyH.nil
  go_simp
  go_at_call 93
  refine (HN.out _).mono ?_
  rintro e w5 ⟨rfl, hK5⟩
  replace hK5 := Kept.trans hK0.drew hK5
  clear hHeld
  refine hK.out _ _ ?_ (fun hHeld => ?_)
  · exact (HX1.out.kept hK5).cells
  clear hK K
  try simp only [Act.put, q0, q1, q2]
  refine tk 3 ⟨some 6, .binOp .eql 57 (.tmp 3) (.tmp 5) 57, 4, "isa.go:31", #[eD 0, eD 2], none⟩ (v := ?_) hHeld ?_ ?_
  rotate_left
  · (intro w hSw; (try dsimp only at hSw); go_simp; try with_reducible rfl)
  try simp only [Act.put, q0, q1, q2]
  refine tk 4 ⟨some 7, .move (.tmp 6), 4, "isa.go:31", #[eD 3, eC 2], none⟩ (v := ?_) hHeld ?_ ?_
  rotate_left
  · (intro w hSw; (try dsimp only at hSw); go_simp; try with_reducible rfl)
  try simp only [Act.put, q0, q1, q2]
  refine tk 5 ⟨some 8, .load 57 (.tmp 1), 57, "isa.go:31", #[eG 4], some (4, true)⟩ (v := ?_) hHeld ?_ ?_
  rotate_left
  · (intro w hSw; (try dsimp only at hSw); go_simp; try with_reducible rfl)
  try simp only [Act.put, q0, q1, q2]
  refine wpAnyH_ready (rs := [6]) (by kernel_rfl) (by simp) ?_
  refine AllReadyH.cons (o := ⟨some 9, .call { callee := .value (.func 94), args := #[.tmp 8], argTypes := #[57] }, 4, "isa.go:31", #[eD 5, eC 4, eG 4], some (4, true)⟩) rfl (fun K hK => ?_) AllReadyH.nil
  go_simp
  go_at_call 94
  refine (HO.out _).mono ?_
  rintro e w6 ⟨rfl, hK6⟩
  replace hK6 := hK5.trans hK6
  clear hK5
  have hK5 := hK6
  clear hK6
  clear hHeld
  refine hK.out _ _ ?_ (fun hHeld => ?_)
  · exact (HX1.out.kept hK5).cells
  clear hK K
  try simp only [Act.put, q0, q1, q2]
  refine tk 7 ⟨some 10, .pick (.tmp 7) (.tmp 9) (.const (.bool false)), 4, "isa.go:31", #[eD 4, eD 6], none⟩ (v := ?_) hHeld ?_ ?_
  rotate_left
  · (intro w hSw; (try dsimp only at hSw); go_simp; try with_reducible rfl)
  try simp only [Act.put, q0, q1, q2]
  refine tk 8 ⟨some 11, .move (.tmp 10), 4, "isa.go:31", #[eD 7, eC 6], none⟩ (v := ?_) hHeld ?_ ?_
  rotate_left
  · (intro w hSw; (try dsimp only at hSw); go_simp; try with_reducible rfl)
  try simp only [Act.put, q0, q1, q2]
  refine tu 9 ⟨some 12, .fieldAddr 57 (.tmp 1) 2, 0, "isa.go:31", #[eG 8], some (8, true)⟩ hHeld ?_
  try simp only [Act.put, q0, q1, q2]
  refine tu 10 ⟨some 13, .load 3 (.tmp 12), 3, "isa.go:31", #[eD 9, eG 8], some (8, true)⟩ hHeld ?_
  try simp only [Act.put, q0, q1, q2]
  refine tu 11 ⟨some 14, .call { callee := .value (.func 95), args := #[.tmp 13], argTypes := #[3] }, 4, "isa.go:31", #[eD 10, eC 8, eG 8], some (8, true)⟩ hHeld ?_
  try simp only [Act.put, q0, q1, q2]
  refine tk 12 ⟨some 15, .pick (.tmp 11) (.tmp 14) (.const (.bool false)), 4, "isa.go:31", #[eD 8, eD 11], none⟩ (v := ?_) hHeld ?_ ?_
  rotate_left
  · (intro w hSw; (try dsimp only at hSw); go_simp; try with_reducible rfl)
  try simp only [Act.put, q0, q1, q2]
  refine tk 13 ⟨some 16, .move (.tmp 15), 4, "isa.go:31", #[eD 12, eC 11], none⟩ (v := ?_) hHeld ?_ ?_
  rotate_left
  · (intro w hSw; (try dsimp only at hSw); go_simp; try with_reducible rfl)
  try simp only [Act.put, q0, q1, q2]
  refine tu 14 ⟨some 17, .fieldAddr 57 (.tmp 1) 3, 0, "isa.go:31", #[eG 13], some (13, true)⟩ hHeld ?_
  try simp only [Act.put, q0, q1, q2]
  refine tu 15 ⟨some 18, .load 3 (.tmp 17), 3, "isa.go:31", #[eD 14, eG 13], some (13, true)⟩ hHeld ?_
  try simp only [Act.put, q0, q1, q2]
  refine tu 16 ⟨some 19, .call { callee := .value (.func 95), args := #[.tmp 18], argTypes := #[3] }, 4, "isa.go:31", #[eD 15, eC 13, eG 13], some (13, true)⟩ hHeld ?_
  try simp only [Act.put, q0, q1, q2]
  refine tk 17 ⟨some 20, .pick (.tmp 16) (.tmp 19) (.const (.bool false)), 4, "isa.go:31", #[eD 13, eD 16], none⟩ (v := ?_) hHeld ?_ ?_
  rotate_left
  · (intro w hSw; (try dsimp only at hSw); go_simp; try with_reducible rfl)
  try simp only [Act.put, q0, q1, q2]
  refine tk 18 ⟨some 21, .move (.tmp 20), 4, "isa.go:31", #[eD 17, eC 16], none⟩ (v := ?_) hHeld ?_ ?_
  rotate_left
  · (intro w hSw; (try dsimp only at hSw); go_simp; try with_reducible rfl)
  try simp only [Act.put, q0, q1, q2]
  refine tu 19 ⟨some 22, .fieldAddr 57 (.tmp 1) 4, 0, "isa.go:31", #[eG 18], some (18, true)⟩ hHeld ?_
  try simp only [Act.put, q0, q1, q2]
  refine tu 20 ⟨some 23, .load 3 (.tmp 22), 3, "isa.go:31", #[eD 19, eG 18], some (18, true)⟩ hHeld ?_
  try simp only [Act.put, q0, q1, q2]
  refine tu 21 ⟨some 24, .call { callee := .value (.func 95), args := #[.tmp 23], argTypes := #[3] }, 4, "isa.go:31", #[eD 20, eC 18, eG 18], some (18, true)⟩ hHeld ?_
  try simp only [Act.put, q0, q1, q2]
  refine tk 22 ⟨some 25, .pick (.tmp 21) (.tmp 24) (.const (.bool false)), 4, "isa.go:31", #[eD 18, eD 21], none⟩ (v := ?_) hHeld ?_ ?_
  rotate_left
  · (intro w hSw; (try dsimp only at hSw); go_simp; try with_reducible rfl)
  try simp only [Act.put, q0, q1, q2]
  refine tk 23 ⟨some 26, .move (.tmp 25), 4, "isa.go:31", #[eD 22, eC 21], none⟩ (v := ?_) hHeld ?_ ?_
  rotate_left
  · (intro w hSw; (try dsimp only at hSw); go_simp; try with_reducible rfl)
  try simp only [Act.put, q0, q1, q2]
  refine tu 24 ⟨some 27, .load 57 (.tmp 1), 57, "isa.go:31", #[eG 23], some (23, true)⟩ hHeld ?_
  try simp only [Act.put, q0, q1, q2]
  refine tu 25 ⟨some 28, .call { callee := .value (.func 96), args := #[.tmp 27], argTypes := #[57] }, 4, "isa.go:31", #[eD 24, eC 23, eG 23], some (23, true)⟩ hHeld ?_
  try simp only [Act.put, q0, q1, q2]
  refine tk 26 ⟨some 29, .pick (.tmp 26) (.tmp 28) (.const (.bool false)), 4, "isa.go:31", #[eD 23, eD 25], none⟩ (v := ?_) hHeld ?_ ?_
  rotate_left
  · (intro w hSw; (try dsimp only at hSw); go_simp; try with_reducible rfl)
  try simp only [Act.put, q0, q1, q2]
  refine tk 27 ⟨some 2, .assign (.tmp 29), 4, "isa.go:31", #[eD 26, eC 25, eP 0, eP 1, eP 2, eP 3, eP 4, eP 5, eP 6, eP 7, eP 8, eP 9, eP 10, eP 11, eP 12, eP 13, eP 14, eP 15, eP 16, eP 17, eP 18, eP 19, eP 20, eP 21, eP 22, eP 23, eP 24, eP 25, eP 26], none⟩ (v := ?_) hHeld ?_ ?_
  rotate_left
  · (intro w hSw; (try dsimp only at hSw); go_simp; try with_reducible rfl)
  try simp only [Act.put, q0, q1, q2]
  refine wpAnyH_done (by kernel_rfl) ?_ _
  go_wp2_with fail
  go_ret
  exact ⟨rfl, HB.out.trans hK5⟩
set_option maxHeartbeats 2000000 in
theorem may_3 (k op a b c i : Int) (u : Bool) (w : World)
    (HN : Hid (∀ w, Calls Tryz.prog 93 #[.agg #[.int .i64 k, .int .i64 op, .int .i64 a, .int .i64 b, .int .i64 c, .int .i64 i, .bool u]] w fun e w' => e = .returned (.agg #[.int .i64 k, .int .i64 op, .int .i64 a, .int .i64 b, .int .i64 c, .int .i64 i, .bool u]) ∧ Kept w w'))
    (HO : Hid (∀ w, Calls Tryz.prog 94 #[.agg #[.int .i64 k, .int .i64 op, .int .i64 a, .int .i64 b, .int .i64 c, .int .i64 i, .bool u]] w fun e w' => e = .returned (.bool true) ∧ Kept w w'))
    (HA : Hid (∀ w, Calls Tryz.prog 95 #[.int .i64 a] w fun e w' => e = .returned (.bool false) ∧ w = w')) :
    Calls Tryz.prog 78 #[.agg #[.int .i64 k, .int .i64 op, .int .i64 a, .int .i64 b, .int .i64 c, .int .i64 i, .bool u]] w fun e w' => e = .returned (.bool false) ∧ Kept w w' := by
  have hK0 := Kept.refl (w.alloc (.cells #[.int .i64 k, .int .i64 op, .int .i64 a, .int .i64 b, .int .i64 c, .int .i64 i, .bool u] 57))
  have X1 := Box.new k op a b c i u w
  have hB := show Kept w (w.alloc (.cells #[.int .i64 k, .int .i64 op, .int .i64 a, .int .i64 b, .int .i64 c, .int .i64 i, .bool u] 57)) from (Kept.refl w).alloc _ _
  go_enter Tryz.func78, Tryz.ntmps78
  go_wp2_with fail
  generalize (w.alloc (.cells #[.int .i64 k, .int .i64 op, .int .i64 a, .int .i64 b, .int .i64 c, .int .i64 i, .bool u] 57)) = wB at hK0 hB X1
  have HB := Lib.hid hB
  have HX1 := Lib.hid X1
  clear hB X1
  refine wp_region_held_drew (S := fun w' => w'.cell? ⟨w.heap.size, 0, none⟩ = some (.int .i64 k) ∧ w'.cell? ⟨w.heap.size, 1, none⟩ = some (.int .i64 op) ∧ w'.cell? ⟨w.heap.size, 2, none⟩ = some (.int .i64 a) ∧ w'.cell? ⟨w.heap.size, 3, none⟩ = some (.int .i64 b) ∧ w'.cell? ⟨w.heap.size, 4, none⟩ = some (.int .i64 c) ∧ w'.cell? ⟨w.heap.size, 5, none⟩ = some (.int .i64 i) ∧ w'.cell? ⟨w.heap.size, 6, none⟩ = some (.bool u)) (by kernel_rfl) ?_ (fun hHeld => ?_)
  · exact (HX1.out.kept hK0.drew).cells
  refine tk 0 ⟨some 3, .load 57 (.tmp 1), 57, "isa.go:31", #[], none⟩ (v := ?_) hHeld ?_ ?_
  rotate_left
  · (intro w hSw; (try dsimp only at hSw); go_simp; try with_reducible rfl)
  try simp only [Act.put, q0, q1, q2]
  refine tk 1 ⟨some 4, .load 57 (.tmp 1), 57, "isa.go:31", #[], none⟩ (v := ?_) hHeld ?_ ?_
  rotate_left
  · (intro w hSw; (try dsimp only at hSw); go_simp; try with_reducible rfl)
  try simp only [Act.put, q0, q1, q2]
  refine wpAnyH_ready (rs := [2]) (by kernel_rfl) (by simp) ?_
  refine AllReadyH.cons (o := ⟨some 5, .call { callee := .value (.func 93), args := #[.tmp 4], argTypes := #[57] }, 57, "isa.go:31", #[eD 1], none⟩) rfl (fun K hK => ?_) AllReadyH.nil
  go_simp
  go_at_call 93
  refine (HN.out _).mono ?_
  rintro e w5 ⟨rfl, hK5⟩
  replace hK5 := Kept.trans hK0.drew hK5
  clear hHeld
  refine hK.out _ _ ?_ (fun hHeld => ?_)
  · exact (HX1.out.kept hK5).cells
  clear hK K
  try simp only [Act.put, q0, q1, q2]
  refine tk 3 ⟨some 6, .binOp .eql 57 (.tmp 3) (.tmp 5) 57, 4, "isa.go:31", #[eD 0, eD 2], none⟩ (v := ?_) hHeld ?_ ?_
  rotate_left
  · (intro w hSw; (try dsimp only at hSw); go_simp; try with_reducible rfl)
  try simp only [Act.put, q0, q1, q2]
  refine tk 4 ⟨some 7, .move (.tmp 6), 4, "isa.go:31", #[eD 3, eC 2], none⟩ (v := ?_) hHeld ?_ ?_
  rotate_left
  · (intro w hSw; (try dsimp only at hSw); go_simp; try with_reducible rfl)
  try simp only [Act.put, q0, q1, q2]
  refine tk 5 ⟨some 8, .load 57 (.tmp 1), 57, "isa.go:31", #[eG 4], some (4, true)⟩ (v := ?_) hHeld ?_ ?_
  rotate_left
  · (intro w hSw; (try dsimp only at hSw); go_simp; try with_reducible rfl)
  try simp only [Act.put, q0, q1, q2]
  refine wpAnyH_ready (rs := [6]) (by kernel_rfl) (by simp) ?_
  refine AllReadyH.cons (o := ⟨some 9, .call { callee := .value (.func 94), args := #[.tmp 8], argTypes := #[57] }, 4, "isa.go:31", #[eD 5, eC 4, eG 4], some (4, true)⟩) rfl (fun K hK => ?_) AllReadyH.nil
  go_simp
  go_at_call 94
  refine (HO.out _).mono ?_
  rintro e w6 ⟨rfl, hK6⟩
  replace hK6 := hK5.trans hK6
  clear hK5
  have hK5 := hK6
  clear hK6
  clear hHeld
  refine hK.out _ _ ?_ (fun hHeld => ?_)
  · exact (HX1.out.kept hK5).cells
  clear hK K
  try simp only [Act.put, q0, q1, q2]
  refine tk 7 ⟨some 10, .pick (.tmp 7) (.tmp 9) (.const (.bool false)), 4, "isa.go:31", #[eD 4, eD 6], none⟩ (v := ?_) hHeld ?_ ?_
  rotate_left
  · (intro w hSw; (try dsimp only at hSw); go_simp; try with_reducible rfl)
  try simp only [Act.put, q0, q1, q2]
  refine tk 8 ⟨some 11, .move (.tmp 10), 4, "isa.go:31", #[eD 7, eC 6], none⟩ (v := ?_) hHeld ?_ ?_
  rotate_left
  · (intro w hSw; (try dsimp only at hSw); go_simp; try with_reducible rfl)
  try simp only [Act.put, q0, q1, q2]
  refine tk 9 ⟨some 12, .fieldAddr 57 (.tmp 1) 2, 0, "isa.go:31", #[eG 8], some (8, true)⟩ (v := ?_) hHeld ?_ ?_
  rotate_left
  · (intro w hSw; (try dsimp only at hSw); go_simp; try with_reducible rfl)
  try simp only [Act.put, q0, q1, q2]
  refine tk 10 ⟨some 13, .load 3 (.tmp 12), 3, "isa.go:31", #[eD 9, eG 8], some (8, true)⟩ (v := ?_) hHeld ?_ ?_
  rotate_left
  · (intro w hSw; (try dsimp only at hSw); go_simp; try with_reducible rfl)
  try simp only [Act.put, q0, q1, q2]
  refine wpAnyH_ready (rs := [11]) (by kernel_rfl) (by simp) ?_
  refine AllReadyH.cons (o := ⟨some 14, .call { callee := .value (.func 95), args := #[.tmp 13], argTypes := #[3] }, 4, "isa.go:31", #[eD 10, eC 8, eG 8], some (8, true)⟩) rfl (fun K hK => ?_) AllReadyH.nil
  go_simp
  go_at_call 95
  refine (HA.out _).mono ?_
  rintro e w6 ⟨rfl, rfl⟩
  clear hHeld
  refine hK.out _ _ ?_ (fun hHeld => ?_)
  · exact (HX1.out.kept hK5).cells
  clear hK K
  try simp only [Act.put, q0, q1, q2]
  refine tk 12 ⟨some 15, .pick (.tmp 11) (.tmp 14) (.const (.bool false)), 4, "isa.go:31", #[eD 8, eD 11], none⟩ (v := ?_) hHeld ?_ ?_
  rotate_left
  · (intro w hSw; (try dsimp only at hSw); go_simp; try with_reducible rfl)
  try simp only [Act.put, q0, q1, q2]
  refine tk 13 ⟨some 16, .move (.tmp 15), 4, "isa.go:31", #[eD 12, eC 11], none⟩ (v := ?_) hHeld ?_ ?_
  rotate_left
  · (intro w hSw; (try dsimp only at hSw); go_simp; try with_reducible rfl)
  try simp only [Act.put, q0, q1, q2]
  refine tu 14 ⟨some 17, .fieldAddr 57 (.tmp 1) 3, 0, "isa.go:31", #[eG 13], some (13, true)⟩ hHeld ?_
  try simp only [Act.put, q0, q1, q2]
  refine tu 15 ⟨some 18, .load 3 (.tmp 17), 3, "isa.go:31", #[eD 14, eG 13], some (13, true)⟩ hHeld ?_
  try simp only [Act.put, q0, q1, q2]
  refine tu 16 ⟨some 19, .call { callee := .value (.func 95), args := #[.tmp 18], argTypes := #[3] }, 4, "isa.go:31", #[eD 15, eC 13, eG 13], some (13, true)⟩ hHeld ?_
  try simp only [Act.put, q0, q1, q2]
  refine tk 17 ⟨some 20, .pick (.tmp 16) (.tmp 19) (.const (.bool false)), 4, "isa.go:31", #[eD 13, eD 16], none⟩ (v := ?_) hHeld ?_ ?_
  rotate_left
  · (intro w hSw; (try dsimp only at hSw); go_simp; try with_reducible rfl)
  try simp only [Act.put, q0, q1, q2]
  refine tk 18 ⟨some 21, .move (.tmp 20), 4, "isa.go:31", #[eD 17, eC 16], none⟩ (v := ?_) hHeld ?_ ?_
  rotate_left
  · (intro w hSw; (try dsimp only at hSw); go_simp; try with_reducible rfl)
  try simp only [Act.put, q0, q1, q2]
  refine tu 19 ⟨some 22, .fieldAddr 57 (.tmp 1) 4, 0, "isa.go:31", #[eG 18], some (18, true)⟩ hHeld ?_
  try simp only [Act.put, q0, q1, q2]
  refine tu 20 ⟨some 23, .load 3 (.tmp 22), 3, "isa.go:31", #[eD 19, eG 18], some (18, true)⟩ hHeld ?_
  try simp only [Act.put, q0, q1, q2]
  refine tu 21 ⟨some 24, .call { callee := .value (.func 95), args := #[.tmp 23], argTypes := #[3] }, 4, "isa.go:31", #[eD 20, eC 18, eG 18], some (18, true)⟩ hHeld ?_
  try simp only [Act.put, q0, q1, q2]
  refine tk 22 ⟨some 25, .pick (.tmp 21) (.tmp 24) (.const (.bool false)), 4, "isa.go:31", #[eD 18, eD 21], none⟩ (v := ?_) hHeld ?_ ?_
  rotate_left
  · (intro w hSw; (try dsimp only at hSw); go_simp; try with_reducible rfl)
  try simp only [Act.put, q0, q1, q2]
  refine tk 23 ⟨some 26, .move (.tmp 25), 4, "isa.go:31", #[eD 22, eC 21], none⟩ (v := ?_) hHeld ?_ ?_
  rotate_left
  · (intro w hSw; (try dsimp only at hSw); go_simp; try with_reducible rfl)
  try simp only [Act.put, q0, q1, q2]
  refine tu 24 ⟨some 27, .load 57 (.tmp 1), 57, "isa.go:31", #[eG 23], some (23, true)⟩ hHeld ?_
  try simp only [Act.put, q0, q1, q2]
  refine tu 25 ⟨some 28, .call { callee := .value (.func 96), args := #[.tmp 27], argTypes := #[57] }, 4, "isa.go:31", #[eD 24, eC 23, eG 23], some (23, true)⟩ hHeld ?_
  try simp only [Act.put, q0, q1, q2]
  refine tk 26 ⟨some 29, .pick (.tmp 26) (.tmp 28) (.const (.bool false)), 4, "isa.go:31", #[eD 23, eD 25], none⟩ (v := ?_) hHeld ?_ ?_
  rotate_left
  · (intro w hSw; (try dsimp only at hSw); go_simp; try with_reducible rfl)
  try simp only [Act.put, q0, q1, q2]
  refine tk 27 ⟨some 2, .assign (.tmp 29), 4, "isa.go:31", #[eD 26, eC 25, eP 0, eP 1, eP 2, eP 3, eP 4, eP 5, eP 6, eP 7, eP 8, eP 9, eP 10, eP 11, eP 12, eP 13, eP 14, eP 15, eP 16, eP 17, eP 18, eP 19, eP 20, eP 21, eP 22, eP 23, eP 24, eP 25, eP 26], none⟩ (v := ?_) hHeld ?_ ?_
  rotate_left
  · (intro w hSw; (try dsimp only at hSw); go_simp; try with_reducible rfl)
  try simp only [Act.put, q0, q1, q2]
  refine wpAnyH_done (by kernel_rfl) ?_ _
  go_wp2_with fail
  go_ret
  exact ⟨rfl, HB.out.trans hK5⟩
set_option maxHeartbeats 2000000 in
theorem may_4 (k op a b c i : Int) (u : Bool) (w : World)
    (HN : Hid (∀ w, Calls Tryz.prog 93 #[.agg #[.int .i64 k, .int .i64 op, .int .i64 a, .int .i64 b, .int .i64 c, .int .i64 i, .bool u]] w fun e w' => e = .returned (.agg #[.int .i64 k, .int .i64 op, .int .i64 a, .int .i64 b, .int .i64 c, .int .i64 i, .bool u]) ∧ Kept w w'))
    (HO : Hid (∀ w, Calls Tryz.prog 94 #[.agg #[.int .i64 k, .int .i64 op, .int .i64 a, .int .i64 b, .int .i64 c, .int .i64 i, .bool u]] w fun e w' => e = .returned (.bool true) ∧ Kept w w'))
    (HA : Hid (∀ w, Calls Tryz.prog 95 #[.int .i64 a] w fun e w' => e = .returned (.bool true) ∧ w = w'))
    (HRB : Hid (∀ w, Calls Tryz.prog 95 #[.int .i64 b] w fun e w' => e = .returned (.bool false) ∧ w = w')) :
    Calls Tryz.prog 78 #[.agg #[.int .i64 k, .int .i64 op, .int .i64 a, .int .i64 b, .int .i64 c, .int .i64 i, .bool u]] w fun e w' => e = .returned (.bool false) ∧ Kept w w' := by
  have hK0 := Kept.refl (w.alloc (.cells #[.int .i64 k, .int .i64 op, .int .i64 a, .int .i64 b, .int .i64 c, .int .i64 i, .bool u] 57))
  have X1 := Box.new k op a b c i u w
  have hB := show Kept w (w.alloc (.cells #[.int .i64 k, .int .i64 op, .int .i64 a, .int .i64 b, .int .i64 c, .int .i64 i, .bool u] 57)) from (Kept.refl w).alloc _ _
  go_enter Tryz.func78, Tryz.ntmps78
  go_wp2_with fail
  generalize (w.alloc (.cells #[.int .i64 k, .int .i64 op, .int .i64 a, .int .i64 b, .int .i64 c, .int .i64 i, .bool u] 57)) = wB at hK0 hB X1
  have HB := Lib.hid hB
  have HX1 := Lib.hid X1
  clear hB X1
  refine wp_region_held_drew (S := fun w' => w'.cell? ⟨w.heap.size, 0, none⟩ = some (.int .i64 k) ∧ w'.cell? ⟨w.heap.size, 1, none⟩ = some (.int .i64 op) ∧ w'.cell? ⟨w.heap.size, 2, none⟩ = some (.int .i64 a) ∧ w'.cell? ⟨w.heap.size, 3, none⟩ = some (.int .i64 b) ∧ w'.cell? ⟨w.heap.size, 4, none⟩ = some (.int .i64 c) ∧ w'.cell? ⟨w.heap.size, 5, none⟩ = some (.int .i64 i) ∧ w'.cell? ⟨w.heap.size, 6, none⟩ = some (.bool u)) (by kernel_rfl) ?_ (fun hHeld => ?_)
  · exact (HX1.out.kept hK0.drew).cells
  refine tk 0 ⟨some 3, .load 57 (.tmp 1), 57, "isa.go:31", #[], none⟩ (v := ?_) hHeld ?_ ?_
  rotate_left
  · (intro w hSw; (try dsimp only at hSw); go_simp; try with_reducible rfl)
  try simp only [Act.put, q0, q1, q2]
  refine tk 1 ⟨some 4, .load 57 (.tmp 1), 57, "isa.go:31", #[], none⟩ (v := ?_) hHeld ?_ ?_
  rotate_left
  · (intro w hSw; (try dsimp only at hSw); go_simp; try with_reducible rfl)
  try simp only [Act.put, q0, q1, q2]
  refine wpAnyH_ready (rs := [2]) (by kernel_rfl) (by simp) ?_
  refine AllReadyH.cons (o := ⟨some 5, .call { callee := .value (.func 93), args := #[.tmp 4], argTypes := #[57] }, 57, "isa.go:31", #[eD 1], none⟩) rfl (fun K hK => ?_) AllReadyH.nil
  go_simp
  go_at_call 93
  refine (HN.out _).mono ?_
  rintro e w5 ⟨rfl, hK5⟩
  replace hK5 := Kept.trans hK0.drew hK5
  clear hHeld
  refine hK.out _ _ ?_ (fun hHeld => ?_)
  · exact (HX1.out.kept hK5).cells
  clear hK K
  try simp only [Act.put, q0, q1, q2]
  refine tk 3 ⟨some 6, .binOp .eql 57 (.tmp 3) (.tmp 5) 57, 4, "isa.go:31", #[eD 0, eD 2], none⟩ (v := ?_) hHeld ?_ ?_
  rotate_left
  · (intro w hSw; (try dsimp only at hSw); go_simp; try with_reducible rfl)
  try simp only [Act.put, q0, q1, q2]
  refine tk 4 ⟨some 7, .move (.tmp 6), 4, "isa.go:31", #[eD 3, eC 2], none⟩ (v := ?_) hHeld ?_ ?_
  rotate_left
  · (intro w hSw; (try dsimp only at hSw); go_simp; try with_reducible rfl)
  try simp only [Act.put, q0, q1, q2]
  refine tk 5 ⟨some 8, .load 57 (.tmp 1), 57, "isa.go:31", #[eG 4], some (4, true)⟩ (v := ?_) hHeld ?_ ?_
  rotate_left
  · (intro w hSw; (try dsimp only at hSw); go_simp; try with_reducible rfl)
  try simp only [Act.put, q0, q1, q2]
  refine wpAnyH_ready (rs := [6]) (by kernel_rfl) (by simp) ?_
  refine AllReadyH.cons (o := ⟨some 9, .call { callee := .value (.func 94), args := #[.tmp 8], argTypes := #[57] }, 4, "isa.go:31", #[eD 5, eC 4, eG 4], some (4, true)⟩) rfl (fun K hK => ?_) AllReadyH.nil
  go_simp
  go_at_call 94
  refine (HO.out _).mono ?_
  rintro e w6 ⟨rfl, hK6⟩
  replace hK6 := hK5.trans hK6
  clear hK5
  have hK5 := hK6
  clear hK6
  clear hHeld
  refine hK.out _ _ ?_ (fun hHeld => ?_)
  · exact (HX1.out.kept hK5).cells
  clear hK K
  try simp only [Act.put, q0, q1, q2]
  refine tk 7 ⟨some 10, .pick (.tmp 7) (.tmp 9) (.const (.bool false)), 4, "isa.go:31", #[eD 4, eD 6], none⟩ (v := ?_) hHeld ?_ ?_
  rotate_left
  · (intro w hSw; (try dsimp only at hSw); go_simp; try with_reducible rfl)
  try simp only [Act.put, q0, q1, q2]
  refine tk 8 ⟨some 11, .move (.tmp 10), 4, "isa.go:31", #[eD 7, eC 6], none⟩ (v := ?_) hHeld ?_ ?_
  rotate_left
  · (intro w hSw; (try dsimp only at hSw); go_simp; try with_reducible rfl)
  try simp only [Act.put, q0, q1, q2]
  refine tk 9 ⟨some 12, .fieldAddr 57 (.tmp 1) 2, 0, "isa.go:31", #[eG 8], some (8, true)⟩ (v := ?_) hHeld ?_ ?_
  rotate_left
  · (intro w hSw; (try dsimp only at hSw); go_simp; try with_reducible rfl)
  try simp only [Act.put, q0, q1, q2]
  refine tk 10 ⟨some 13, .load 3 (.tmp 12), 3, "isa.go:31", #[eD 9, eG 8], some (8, true)⟩ (v := ?_) hHeld ?_ ?_
  rotate_left
  · (intro w hSw; (try dsimp only at hSw); go_simp; try with_reducible rfl)
  try simp only [Act.put, q0, q1, q2]
  refine wpAnyH_ready (rs := [11]) (by kernel_rfl) (by simp) ?_
  refine AllReadyH.cons (o := ⟨some 14, .call { callee := .value (.func 95), args := #[.tmp 13], argTypes := #[3] }, 4, "isa.go:31", #[eD 10, eC 8, eG 8], some (8, true)⟩) rfl (fun K hK => ?_) AllReadyH.nil
  go_simp
  go_at_call 95
  refine (HA.out _).mono ?_
  rintro e w6 ⟨rfl, rfl⟩
  clear hHeld
  refine hK.out _ _ ?_ (fun hHeld => ?_)
  · exact (HX1.out.kept hK5).cells
  clear hK K
  try simp only [Act.put, q0, q1, q2]
  refine tk 12 ⟨some 15, .pick (.tmp 11) (.tmp 14) (.const (.bool false)), 4, "isa.go:31", #[eD 8, eD 11], none⟩ (v := ?_) hHeld ?_ ?_
  rotate_left
  · (intro w hSw; (try dsimp only at hSw); go_simp; try with_reducible rfl)
  try simp only [Act.put, q0, q1, q2]
  refine tk 13 ⟨some 16, .move (.tmp 15), 4, "isa.go:31", #[eD 12, eC 11], none⟩ (v := ?_) hHeld ?_ ?_
  rotate_left
  · (intro w hSw; (try dsimp only at hSw); go_simp; try with_reducible rfl)
  try simp only [Act.put, q0, q1, q2]
  refine tk 14 ⟨some 17, .fieldAddr 57 (.tmp 1) 3, 0, "isa.go:31", #[eG 13], some (13, true)⟩ (v := ?_) hHeld ?_ ?_
  rotate_left
  · (intro w hSw; (try dsimp only at hSw); go_simp; try with_reducible rfl)
  try simp only [Act.put, q0, q1, q2]
  refine tk 15 ⟨some 18, .load 3 (.tmp 17), 3, "isa.go:31", #[eD 14, eG 13], some (13, true)⟩ (v := ?_) hHeld ?_ ?_
  rotate_left
  · (intro w hSw; (try dsimp only at hSw); go_simp; try with_reducible rfl)
  try simp only [Act.put, q0, q1, q2]
  refine wpAnyH_ready (rs := [16]) (by kernel_rfl) (by simp) ?_
  refine AllReadyH.cons (o := ⟨some 19, .call { callee := .value (.func 95), args := #[.tmp 18], argTypes := #[3] }, 4, "isa.go:31", #[eD 15, eC 13, eG 13], some (13, true)⟩) rfl (fun K hK => ?_) AllReadyH.nil
  go_simp
  go_at_call 95
  refine (HRB.out _).mono ?_
  rintro e w6 ⟨rfl, rfl⟩
  clear hHeld
  refine hK.out _ _ ?_ (fun hHeld => ?_)
  · exact (HX1.out.kept hK5).cells
  clear hK K
  try simp only [Act.put, q0, q1, q2]
  refine tk 17 ⟨some 20, .pick (.tmp 16) (.tmp 19) (.const (.bool false)), 4, "isa.go:31", #[eD 13, eD 16], none⟩ (v := ?_) hHeld ?_ ?_
  rotate_left
  · (intro w hSw; (try dsimp only at hSw); go_simp; try with_reducible rfl)
  try simp only [Act.put, q0, q1, q2]
  refine tk 18 ⟨some 21, .move (.tmp 20), 4, "isa.go:31", #[eD 17, eC 16], none⟩ (v := ?_) hHeld ?_ ?_
  rotate_left
  · (intro w hSw; (try dsimp only at hSw); go_simp; try with_reducible rfl)
  try simp only [Act.put, q0, q1, q2]
  refine tu 19 ⟨some 22, .fieldAddr 57 (.tmp 1) 4, 0, "isa.go:31", #[eG 18], some (18, true)⟩ hHeld ?_
  try simp only [Act.put, q0, q1, q2]
  refine tu 20 ⟨some 23, .load 3 (.tmp 22), 3, "isa.go:31", #[eD 19, eG 18], some (18, true)⟩ hHeld ?_
  try simp only [Act.put, q0, q1, q2]
  refine tu 21 ⟨some 24, .call { callee := .value (.func 95), args := #[.tmp 23], argTypes := #[3] }, 4, "isa.go:31", #[eD 20, eC 18, eG 18], some (18, true)⟩ hHeld ?_
  try simp only [Act.put, q0, q1, q2]
  refine tk 22 ⟨some 25, .pick (.tmp 21) (.tmp 24) (.const (.bool false)), 4, "isa.go:31", #[eD 18, eD 21], none⟩ (v := ?_) hHeld ?_ ?_
  rotate_left
  · (intro w hSw; (try dsimp only at hSw); go_simp; try with_reducible rfl)
  try simp only [Act.put, q0, q1, q2]
  refine tk 23 ⟨some 26, .move (.tmp 25), 4, "isa.go:31", #[eD 22, eC 21], none⟩ (v := ?_) hHeld ?_ ?_
  rotate_left
  · (intro w hSw; (try dsimp only at hSw); go_simp; try with_reducible rfl)
  try simp only [Act.put, q0, q1, q2]
  refine tu 24 ⟨some 27, .load 57 (.tmp 1), 57, "isa.go:31", #[eG 23], some (23, true)⟩ hHeld ?_
  try simp only [Act.put, q0, q1, q2]
  refine tu 25 ⟨some 28, .call { callee := .value (.func 96), args := #[.tmp 27], argTypes := #[57] }, 4, "isa.go:31", #[eD 24, eC 23, eG 23], some (23, true)⟩ hHeld ?_
  try simp only [Act.put, q0, q1, q2]
  refine tk 26 ⟨some 29, .pick (.tmp 26) (.tmp 28) (.const (.bool false)), 4, "isa.go:31", #[eD 23, eD 25], none⟩ (v := ?_) hHeld ?_ ?_
  rotate_left
  · (intro w hSw; (try dsimp only at hSw); go_simp; try with_reducible rfl)
  try simp only [Act.put, q0, q1, q2]
  refine tk 27 ⟨some 2, .assign (.tmp 29), 4, "isa.go:31", #[eD 26, eC 25, eP 0, eP 1, eP 2, eP 3, eP 4, eP 5, eP 6, eP 7, eP 8, eP 9, eP 10, eP 11, eP 12, eP 13, eP 14, eP 15, eP 16, eP 17, eP 18, eP 19, eP 20, eP 21, eP 22, eP 23, eP 24, eP 25, eP 26], none⟩ (v := ?_) hHeld ?_ ?_
  rotate_left
  · (intro w hSw; (try dsimp only at hSw); go_simp; try with_reducible rfl)
  try simp only [Act.put, q0, q1, q2]
  refine wpAnyH_done (by kernel_rfl) ?_ _
  go_wp2_with fail
  go_ret
  exact ⟨rfl, HB.out.trans hK5⟩
set_option maxHeartbeats 2000000 in
theorem may_5 (k op a b c i : Int) (u : Bool) (w : World)
    (HN : Hid (∀ w, Calls Tryz.prog 93 #[.agg #[.int .i64 k, .int .i64 op, .int .i64 a, .int .i64 b, .int .i64 c, .int .i64 i, .bool u]] w fun e w' => e = .returned (.agg #[.int .i64 k, .int .i64 op, .int .i64 a, .int .i64 b, .int .i64 c, .int .i64 i, .bool u]) ∧ Kept w w'))
    (HO : Hid (∀ w, Calls Tryz.prog 94 #[.agg #[.int .i64 k, .int .i64 op, .int .i64 a, .int .i64 b, .int .i64 c, .int .i64 i, .bool u]] w fun e w' => e = .returned (.bool true) ∧ Kept w w'))
    (HA : Hid (∀ w, Calls Tryz.prog 95 #[.int .i64 a] w fun e w' => e = .returned (.bool true) ∧ w = w'))
    (HRB : Hid (∀ w, Calls Tryz.prog 95 #[.int .i64 b] w fun e w' => e = .returned (.bool true) ∧ w = w'))
    (HC : Hid (∀ w, Calls Tryz.prog 95 #[.int .i64 c] w fun e w' => e = .returned (.bool false) ∧ w = w')) :
    Calls Tryz.prog 78 #[.agg #[.int .i64 k, .int .i64 op, .int .i64 a, .int .i64 b, .int .i64 c, .int .i64 i, .bool u]] w fun e w' => e = .returned (.bool false) ∧ Kept w w' := by
  have hK0 := Kept.refl (w.alloc (.cells #[.int .i64 k, .int .i64 op, .int .i64 a, .int .i64 b, .int .i64 c, .int .i64 i, .bool u] 57))
  have X1 := Box.new k op a b c i u w
  have hB := show Kept w (w.alloc (.cells #[.int .i64 k, .int .i64 op, .int .i64 a, .int .i64 b, .int .i64 c, .int .i64 i, .bool u] 57)) from (Kept.refl w).alloc _ _
  go_enter Tryz.func78, Tryz.ntmps78
  go_wp2_with fail
  generalize (w.alloc (.cells #[.int .i64 k, .int .i64 op, .int .i64 a, .int .i64 b, .int .i64 c, .int .i64 i, .bool u] 57)) = wB at hK0 hB X1
  have HB := Lib.hid hB
  have HX1 := Lib.hid X1
  clear hB X1
  refine wp_region_held_drew (S := fun w' => w'.cell? ⟨w.heap.size, 0, none⟩ = some (.int .i64 k) ∧ w'.cell? ⟨w.heap.size, 1, none⟩ = some (.int .i64 op) ∧ w'.cell? ⟨w.heap.size, 2, none⟩ = some (.int .i64 a) ∧ w'.cell? ⟨w.heap.size, 3, none⟩ = some (.int .i64 b) ∧ w'.cell? ⟨w.heap.size, 4, none⟩ = some (.int .i64 c) ∧ w'.cell? ⟨w.heap.size, 5, none⟩ = some (.int .i64 i) ∧ w'.cell? ⟨w.heap.size, 6, none⟩ = some (.bool u)) (by kernel_rfl) ?_ (fun hHeld => ?_)
  · exact (HX1.out.kept hK0.drew).cells
  refine tk 0 ⟨some 3, .load 57 (.tmp 1), 57, "isa.go:31", #[], none⟩ (v := ?_) hHeld ?_ ?_
  rotate_left
  · (intro w hSw; (try dsimp only at hSw); go_simp; try with_reducible rfl)
  try simp only [Act.put, q0, q1, q2]
  refine tk 1 ⟨some 4, .load 57 (.tmp 1), 57, "isa.go:31", #[], none⟩ (v := ?_) hHeld ?_ ?_
  rotate_left
  · (intro w hSw; (try dsimp only at hSw); go_simp; try with_reducible rfl)
  try simp only [Act.put, q0, q1, q2]
  refine wpAnyH_ready (rs := [2]) (by kernel_rfl) (by simp) ?_
  refine AllReadyH.cons (o := ⟨some 5, .call { callee := .value (.func 93), args := #[.tmp 4], argTypes := #[57] }, 57, "isa.go:31", #[eD 1], none⟩) rfl (fun K hK => ?_) AllReadyH.nil
  go_simp
  go_at_call 93
  refine (HN.out _).mono ?_
  rintro e w5 ⟨rfl, hK5⟩
  replace hK5 := Kept.trans hK0.drew hK5
  clear hHeld
  refine hK.out _ _ ?_ (fun hHeld => ?_)
  · exact (HX1.out.kept hK5).cells
  clear hK K
  try simp only [Act.put, q0, q1, q2]
  refine tk 3 ⟨some 6, .binOp .eql 57 (.tmp 3) (.tmp 5) 57, 4, "isa.go:31", #[eD 0, eD 2], none⟩ (v := ?_) hHeld ?_ ?_
  rotate_left
  · (intro w hSw; (try dsimp only at hSw); go_simp; try with_reducible rfl)
  try simp only [Act.put, q0, q1, q2]
  refine tk 4 ⟨some 7, .move (.tmp 6), 4, "isa.go:31", #[eD 3, eC 2], none⟩ (v := ?_) hHeld ?_ ?_
  rotate_left
  · (intro w hSw; (try dsimp only at hSw); go_simp; try with_reducible rfl)
  try simp only [Act.put, q0, q1, q2]
  refine tk 5 ⟨some 8, .load 57 (.tmp 1), 57, "isa.go:31", #[eG 4], some (4, true)⟩ (v := ?_) hHeld ?_ ?_
  rotate_left
  · (intro w hSw; (try dsimp only at hSw); go_simp; try with_reducible rfl)
  try simp only [Act.put, q0, q1, q2]
  refine wpAnyH_ready (rs := [6]) (by kernel_rfl) (by simp) ?_
  refine AllReadyH.cons (o := ⟨some 9, .call { callee := .value (.func 94), args := #[.tmp 8], argTypes := #[57] }, 4, "isa.go:31", #[eD 5, eC 4, eG 4], some (4, true)⟩) rfl (fun K hK => ?_) AllReadyH.nil
  go_simp
  go_at_call 94
  refine (HO.out _).mono ?_
  rintro e w6 ⟨rfl, hK6⟩
  replace hK6 := hK5.trans hK6
  clear hK5
  have hK5 := hK6
  clear hK6
  clear hHeld
  refine hK.out _ _ ?_ (fun hHeld => ?_)
  · exact (HX1.out.kept hK5).cells
  clear hK K
  try simp only [Act.put, q0, q1, q2]
  refine tk 7 ⟨some 10, .pick (.tmp 7) (.tmp 9) (.const (.bool false)), 4, "isa.go:31", #[eD 4, eD 6], none⟩ (v := ?_) hHeld ?_ ?_
  rotate_left
  · (intro w hSw; (try dsimp only at hSw); go_simp; try with_reducible rfl)
  try simp only [Act.put, q0, q1, q2]
  refine tk 8 ⟨some 11, .move (.tmp 10), 4, "isa.go:31", #[eD 7, eC 6], none⟩ (v := ?_) hHeld ?_ ?_
  rotate_left
  · (intro w hSw; (try dsimp only at hSw); go_simp; try with_reducible rfl)
  try simp only [Act.put, q0, q1, q2]
  refine tk 9 ⟨some 12, .fieldAddr 57 (.tmp 1) 2, 0, "isa.go:31", #[eG 8], some (8, true)⟩ (v := ?_) hHeld ?_ ?_
  rotate_left
  · (intro w hSw; (try dsimp only at hSw); go_simp; try with_reducible rfl)
  try simp only [Act.put, q0, q1, q2]
  refine tk 10 ⟨some 13, .load 3 (.tmp 12), 3, "isa.go:31", #[eD 9, eG 8], some (8, true)⟩ (v := ?_) hHeld ?_ ?_
  rotate_left
  · (intro w hSw; (try dsimp only at hSw); go_simp; try with_reducible rfl)
  try simp only [Act.put, q0, q1, q2]
  refine wpAnyH_ready (rs := [11]) (by kernel_rfl) (by simp) ?_
  refine AllReadyH.cons (o := ⟨some 14, .call { callee := .value (.func 95), args := #[.tmp 13], argTypes := #[3] }, 4, "isa.go:31", #[eD 10, eC 8, eG 8], some (8, true)⟩) rfl (fun K hK => ?_) AllReadyH.nil
  go_simp
  go_at_call 95
  refine (HA.out _).mono ?_
  rintro e w6 ⟨rfl, rfl⟩
  clear hHeld
  refine hK.out _ _ ?_ (fun hHeld => ?_)
  · exact (HX1.out.kept hK5).cells
  clear hK K
  try simp only [Act.put, q0, q1, q2]
  refine tk 12 ⟨some 15, .pick (.tmp 11) (.tmp 14) (.const (.bool false)), 4, "isa.go:31", #[eD 8, eD 11], none⟩ (v := ?_) hHeld ?_ ?_
  rotate_left
  · (intro w hSw; (try dsimp only at hSw); go_simp; try with_reducible rfl)
  try simp only [Act.put, q0, q1, q2]
  refine tk 13 ⟨some 16, .move (.tmp 15), 4, "isa.go:31", #[eD 12, eC 11], none⟩ (v := ?_) hHeld ?_ ?_
  rotate_left
  · (intro w hSw; (try dsimp only at hSw); go_simp; try with_reducible rfl)
  try simp only [Act.put, q0, q1, q2]
  refine tk 14 ⟨some 17, .fieldAddr 57 (.tmp 1) 3, 0, "isa.go:31", #[eG 13], some (13, true)⟩ (v := ?_) hHeld ?_ ?_
  rotate_left
  · (intro w hSw; (try dsimp only at hSw); go_simp; try with_reducible rfl)
  try simp only [Act.put, q0, q1, q2]
  refine tk 15 ⟨some 18, .load 3 (.tmp 17), 3, "isa.go:31", #[eD 14, eG 13], some (13, true)⟩ (v := ?_) hHeld ?_ ?_
  rotate_left
  · (intro w hSw; (try dsimp only at hSw); go_simp; try with_reducible rfl)
  try simp only [Act.put, q0, q1, q2]
  refine wpAnyH_ready (rs := [16]) (by kernel_rfl) (by simp) ?_
  refine AllReadyH.cons (o := ⟨some 19, .call { callee := .value (.func 95), args := #[.tmp 18], argTypes := #[3] }, 4, "isa.go:31", #[eD 15, eC 13, eG 13], some (13, true)⟩) rfl (fun K hK => ?_) AllReadyH.nil
  go_simp
  go_at_call 95
  refine (HRB.out _).mono ?_
  rintro e w6 ⟨rfl, rfl⟩
  clear hHeld
  refine hK.out _ _ ?_ (fun hHeld => ?_)
  · exact (HX1.out.kept hK5).cells
  clear hK K
  try simp only [Act.put, q0, q1, q2]
  refine tk 17 ⟨some 20, .pick (.tmp 16) (.tmp 19) (.const (.bool false)), 4, "isa.go:31", #[eD 13, eD 16], none⟩ (v := ?_) hHeld ?_ ?_
  rotate_left
  · (intro w hSw; (try dsimp only at hSw); go_simp; try with_reducible rfl)
  try simp only [Act.put, q0, q1, q2]
  refine tk 18 ⟨some 21, .move (.tmp 20), 4, "isa.go:31", #[eD 17, eC 16], none⟩ (v := ?_) hHeld ?_ ?_
  rotate_left
  · (intro w hSw; (try dsimp only at hSw); go_simp; try with_reducible rfl)
  try simp only [Act.put, q0, q1, q2]
  refine tk 19 ⟨some 22, .fieldAddr 57 (.tmp 1) 4, 0, "isa.go:31", #[eG 18], some (18, true)⟩ (v := ?_) hHeld ?_ ?_
  rotate_left
  · (intro w hSw; (try dsimp only at hSw); go_simp; try with_reducible rfl)
  try simp only [Act.put, q0, q1, q2]
  refine tk 20 ⟨some 23, .load 3 (.tmp 22), 3, "isa.go:31", #[eD 19, eG 18], some (18, true)⟩ (v := ?_) hHeld ?_ ?_
  rotate_left
  · (intro w hSw; (try dsimp only at hSw); go_simp; try with_reducible rfl)
  try simp only [Act.put, q0, q1, q2]
  refine wpAnyH_ready (rs := [21]) (by kernel_rfl) (by simp) ?_
  refine AllReadyH.cons (o := ⟨some 24, .call { callee := .value (.func 95), args := #[.tmp 23], argTypes := #[3] }, 4, "isa.go:31", #[eD 20, eC 18, eG 18], some (18, true)⟩) rfl (fun K hK => ?_) AllReadyH.nil
  go_simp
  go_at_call 95
  refine (HC.out _).mono ?_
  rintro e w6 ⟨rfl, rfl⟩
  clear hHeld
  refine hK.out _ _ ?_ (fun hHeld => ?_)
  · exact (HX1.out.kept hK5).cells
  clear hK K
  try simp only [Act.put, q0, q1, q2]
  refine tk 22 ⟨some 25, .pick (.tmp 21) (.tmp 24) (.const (.bool false)), 4, "isa.go:31", #[eD 18, eD 21], none⟩ (v := ?_) hHeld ?_ ?_
  rotate_left
  · (intro w hSw; (try dsimp only at hSw); go_simp; try with_reducible rfl)
  try simp only [Act.put, q0, q1, q2]
  refine tk 23 ⟨some 26, .move (.tmp 25), 4, "isa.go:31", #[eD 22, eC 21], none⟩ (v := ?_) hHeld ?_ ?_
  rotate_left
  · (intro w hSw; (try dsimp only at hSw); go_simp; try with_reducible rfl)
  try simp only [Act.put, q0, q1, q2]
  refine tu 24 ⟨some 27, .load 57 (.tmp 1), 57, "isa.go:31", #[eG 23], some (23, true)⟩ hHeld ?_
  try simp only [Act.put, q0, q1, q2]
  refine tu 25 ⟨some 28, .call { callee := .value (.func 96), args := #[.tmp 27], argTypes := #[57] }, 4, "isa.go:31", #[eD 24, eC 23, eG 23], some (23, true)⟩ hHeld ?_
  try simp only [Act.put, q0, q1, q2]
  refine tk 26 ⟨some 29, .pick (.tmp 26) (.tmp 28) (.const (.bool false)), 4, "isa.go:31", #[eD 23, eD 25], none⟩ (v := ?_) hHeld ?_ ?_
  rotate_left
  · (intro w hSw; (try dsimp only at hSw); go_simp; try with_reducible rfl)
  try simp only [Act.put, q0, q1, q2]
  refine tk 27 ⟨some 2, .assign (.tmp 29), 4, "isa.go:31", #[eD 26, eC 25, eP 0, eP 1, eP 2, eP 3, eP 4, eP 5, eP 6, eP 7, eP 8, eP 9, eP 10, eP 11, eP 12, eP 13, eP 14, eP 15, eP 16, eP 17, eP 18, eP 19, eP 20, eP 21, eP 22, eP 23, eP 24, eP 25, eP 26], none⟩ (v := ?_) hHeld ?_ ?_
  rotate_left
  · (intro w hSw; (try dsimp only at hSw); go_simp; try with_reducible rfl)
  try simp only [Act.put, q0, q1, q2]
  refine wpAnyH_done (by kernel_rfl) ?_ _
  go_wp2_with fail
  go_ret
  exact ⟨rfl, HB.out.trans hK5⟩
set_option maxHeartbeats 2000000 in
theorem may_6 (k op a b c i : Int) (u : Bool) (w : World)
    (HN : Hid (∀ w, Calls Tryz.prog 93 #[.agg #[.int .i64 k, .int .i64 op, .int .i64 a, .int .i64 b, .int .i64 c, .int .i64 i, .bool u]] w fun e w' => e = .returned (.agg #[.int .i64 k, .int .i64 op, .int .i64 a, .int .i64 b, .int .i64 c, .int .i64 i, .bool u]) ∧ Kept w w'))
    (HO : Hid (∀ w, Calls Tryz.prog 94 #[.agg #[.int .i64 k, .int .i64 op, .int .i64 a, .int .i64 b, .int .i64 c, .int .i64 i, .bool u]] w fun e w' => e = .returned (.bool true) ∧ Kept w w'))
    (HA : Hid (∀ w, Calls Tryz.prog 95 #[.int .i64 a] w fun e w' => e = .returned (.bool true) ∧ w = w'))
    (HRB : Hid (∀ w, Calls Tryz.prog 95 #[.int .i64 b] w fun e w' => e = .returned (.bool true) ∧ w = w'))
    (HC : Hid (∀ w, Calls Tryz.prog 95 #[.int .i64 c] w fun e w' => e = .returned (.bool true) ∧ w = w'))
    (HI : Hid (∀ w, Calls Tryz.prog 96 #[.agg #[.int .i64 k, .int .i64 op, .int .i64 a, .int .i64 b, .int .i64 c, .int .i64 i, .bool u]] w fun e w' => e = .returned (.bool false) ∧ Kept w w')) :
    Calls Tryz.prog 78 #[.agg #[.int .i64 k, .int .i64 op, .int .i64 a, .int .i64 b, .int .i64 c, .int .i64 i, .bool u]] w fun e w' => e = .returned (.bool false) ∧ Kept w w' := by
  have hK0 := Kept.refl (w.alloc (.cells #[.int .i64 k, .int .i64 op, .int .i64 a, .int .i64 b, .int .i64 c, .int .i64 i, .bool u] 57))
  have X1 := Box.new k op a b c i u w
  have hB := show Kept w (w.alloc (.cells #[.int .i64 k, .int .i64 op, .int .i64 a, .int .i64 b, .int .i64 c, .int .i64 i, .bool u] 57)) from (Kept.refl w).alloc _ _
  go_enter Tryz.func78, Tryz.ntmps78
  go_wp2_with fail
  generalize (w.alloc (.cells #[.int .i64 k, .int .i64 op, .int .i64 a, .int .i64 b, .int .i64 c, .int .i64 i, .bool u] 57)) = wB at hK0 hB X1
  have HB := Lib.hid hB
  have HX1 := Lib.hid X1
  clear hB X1
  refine wp_region_held_drew (S := fun w' => w'.cell? ⟨w.heap.size, 0, none⟩ = some (.int .i64 k) ∧ w'.cell? ⟨w.heap.size, 1, none⟩ = some (.int .i64 op) ∧ w'.cell? ⟨w.heap.size, 2, none⟩ = some (.int .i64 a) ∧ w'.cell? ⟨w.heap.size, 3, none⟩ = some (.int .i64 b) ∧ w'.cell? ⟨w.heap.size, 4, none⟩ = some (.int .i64 c) ∧ w'.cell? ⟨w.heap.size, 5, none⟩ = some (.int .i64 i) ∧ w'.cell? ⟨w.heap.size, 6, none⟩ = some (.bool u)) (by kernel_rfl) ?_ (fun hHeld => ?_)
  · exact (HX1.out.kept hK0.drew).cells
  refine tk 0 ⟨some 3, .load 57 (.tmp 1), 57, "isa.go:31", #[], none⟩ (v := ?_) hHeld ?_ ?_
  rotate_left
  · (intro w hSw; (try dsimp only at hSw); go_simp; try with_reducible rfl)
  try simp only [Act.put, q0, q1, q2]
  refine tk 1 ⟨some 4, .load 57 (.tmp 1), 57, "isa.go:31", #[], none⟩ (v := ?_) hHeld ?_ ?_
  rotate_left
  · (intro w hSw; (try dsimp only at hSw); go_simp; try with_reducible rfl)
  try simp only [Act.put, q0, q1, q2]
  refine wpAnyH_ready (rs := [2]) (by kernel_rfl) (by simp) ?_
  refine AllReadyH.cons (o := ⟨some 5, .call { callee := .value (.func 93), args := #[.tmp 4], argTypes := #[57] }, 57, "isa.go:31", #[eD 1], none⟩) rfl (fun K hK => ?_) AllReadyH.nil
  go_simp
  go_at_call 93
  refine (HN.out _).mono ?_
  rintro e w5 ⟨rfl, hK5⟩
  replace hK5 := Kept.trans hK0.drew hK5
  clear hHeld
  refine hK.out _ _ ?_ (fun hHeld => ?_)
  · exact (HX1.out.kept hK5).cells
  clear hK K
  try simp only [Act.put, q0, q1, q2]
  refine tk 3 ⟨some 6, .binOp .eql 57 (.tmp 3) (.tmp 5) 57, 4, "isa.go:31", #[eD 0, eD 2], none⟩ (v := ?_) hHeld ?_ ?_
  rotate_left
  · (intro w hSw; (try dsimp only at hSw); go_simp; try with_reducible rfl)
  try simp only [Act.put, q0, q1, q2]
  refine tk 4 ⟨some 7, .move (.tmp 6), 4, "isa.go:31", #[eD 3, eC 2], none⟩ (v := ?_) hHeld ?_ ?_
  rotate_left
  · (intro w hSw; (try dsimp only at hSw); go_simp; try with_reducible rfl)
  try simp only [Act.put, q0, q1, q2]
  refine tk 5 ⟨some 8, .load 57 (.tmp 1), 57, "isa.go:31", #[eG 4], some (4, true)⟩ (v := ?_) hHeld ?_ ?_
  rotate_left
  · (intro w hSw; (try dsimp only at hSw); go_simp; try with_reducible rfl)
  try simp only [Act.put, q0, q1, q2]
  refine wpAnyH_ready (rs := [6]) (by kernel_rfl) (by simp) ?_
  refine AllReadyH.cons (o := ⟨some 9, .call { callee := .value (.func 94), args := #[.tmp 8], argTypes := #[57] }, 4, "isa.go:31", #[eD 5, eC 4, eG 4], some (4, true)⟩) rfl (fun K hK => ?_) AllReadyH.nil
  go_simp
  go_at_call 94
  refine (HO.out _).mono ?_
  rintro e w6 ⟨rfl, hK6⟩
  replace hK6 := hK5.trans hK6
  clear hK5
  have hK5 := hK6
  clear hK6
  clear hHeld
  refine hK.out _ _ ?_ (fun hHeld => ?_)
  · exact (HX1.out.kept hK5).cells
  clear hK K
  try simp only [Act.put, q0, q1, q2]
  refine tk 7 ⟨some 10, .pick (.tmp 7) (.tmp 9) (.const (.bool false)), 4, "isa.go:31", #[eD 4, eD 6], none⟩ (v := ?_) hHeld ?_ ?_
  rotate_left
  · (intro w hSw; (try dsimp only at hSw); go_simp; try with_reducible rfl)
  try simp only [Act.put, q0, q1, q2]
  refine tk 8 ⟨some 11, .move (.tmp 10), 4, "isa.go:31", #[eD 7, eC 6], none⟩ (v := ?_) hHeld ?_ ?_
  rotate_left
  · (intro w hSw; (try dsimp only at hSw); go_simp; try with_reducible rfl)
  try simp only [Act.put, q0, q1, q2]
  refine tk 9 ⟨some 12, .fieldAddr 57 (.tmp 1) 2, 0, "isa.go:31", #[eG 8], some (8, true)⟩ (v := ?_) hHeld ?_ ?_
  rotate_left
  · (intro w hSw; (try dsimp only at hSw); go_simp; try with_reducible rfl)
  try simp only [Act.put, q0, q1, q2]
  refine tk 10 ⟨some 13, .load 3 (.tmp 12), 3, "isa.go:31", #[eD 9, eG 8], some (8, true)⟩ (v := ?_) hHeld ?_ ?_
  rotate_left
  · (intro w hSw; (try dsimp only at hSw); go_simp; try with_reducible rfl)
  try simp only [Act.put, q0, q1, q2]
  refine wpAnyH_ready (rs := [11]) (by kernel_rfl) (by simp) ?_
  refine AllReadyH.cons (o := ⟨some 14, .call { callee := .value (.func 95), args := #[.tmp 13], argTypes := #[3] }, 4, "isa.go:31", #[eD 10, eC 8, eG 8], some (8, true)⟩) rfl (fun K hK => ?_) AllReadyH.nil
  go_simp
  go_at_call 95
  refine (HA.out _).mono ?_
  rintro e w6 ⟨rfl, rfl⟩
  clear hHeld
  refine hK.out _ _ ?_ (fun hHeld => ?_)
  · exact (HX1.out.kept hK5).cells
  clear hK K
  try simp only [Act.put, q0, q1, q2]
  refine tk 12 ⟨some 15, .pick (.tmp 11) (.tmp 14) (.const (.bool false)), 4, "isa.go:31", #[eD 8, eD 11], none⟩ (v := ?_) hHeld ?_ ?_
  rotate_left
  · (intro w hSw; (try dsimp only at hSw); go_simp; try with_reducible rfl)
  try simp only [Act.put, q0, q1, q2]
  refine tk 13 ⟨some 16, .move (.tmp 15), 4, "isa.go:31", #[eD 12, eC 11], none⟩ (v := ?_) hHeld ?_ ?_
  rotate_left
  · (intro w hSw; (try dsimp only at hSw); go_simp; try with_reducible rfl)
  try simp only [Act.put, q0, q1, q2]
  refine tk 14 ⟨some 17, .fieldAddr 57 (.tmp 1) 3, 0, "isa.go:31", #[eG 13], some (13, true)⟩ (v := ?_) hHeld ?_ ?_
  rotate_left
  · (intro w hSw; (try dsimp only at hSw); go_simp; try with_reducible rfl)
  try simp only [Act.put, q0, q1, q2]
  refine tk 15 ⟨some 18, .load 3 (.tmp 17), 3, "isa.go:31", #[eD 14, eG 13], some (13, true)⟩ (v := ?_) hHeld ?_ ?_
  rotate_left
  · (intro w hSw; (try dsimp only at hSw); go_simp; try with_reducible rfl)
  try simp only [Act.put, q0, q1, q2]
  refine wpAnyH_ready (rs := [16]) (by kernel_rfl) (by simp) ?_
  refine AllReadyH.cons (o := ⟨some 19, .call { callee := .value (.func 95), args := #[.tmp 18], argTypes := #[3] }, 4, "isa.go:31", #[eD 15, eC 13, eG 13], some (13, true)⟩) rfl (fun K hK => ?_) AllReadyH.nil
  go_simp
  go_at_call 95
  refine (HRB.out _).mono ?_
  rintro e w6 ⟨rfl, rfl⟩
  clear hHeld
  refine hK.out _ _ ?_ (fun hHeld => ?_)
  · exact (HX1.out.kept hK5).cells
  clear hK K
  try simp only [Act.put, q0, q1, q2]
  refine tk 17 ⟨some 20, .pick (.tmp 16) (.tmp 19) (.const (.bool false)), 4, "isa.go:31", #[eD 13, eD 16], none⟩ (v := ?_) hHeld ?_ ?_
  rotate_left
  · (intro w hSw; (try dsimp only at hSw); go_simp; try with_reducible rfl)
  try simp only [Act.put, q0, q1, q2]
  refine tk 18 ⟨some 21, .move (.tmp 20), 4, "isa.go:31", #[eD 17, eC 16], none⟩ (v := ?_) hHeld ?_ ?_
  rotate_left
  · (intro w hSw; (try dsimp only at hSw); go_simp; try with_reducible rfl)
  try simp only [Act.put, q0, q1, q2]
  refine tk 19 ⟨some 22, .fieldAddr 57 (.tmp 1) 4, 0, "isa.go:31", #[eG 18], some (18, true)⟩ (v := ?_) hHeld ?_ ?_
  rotate_left
  · (intro w hSw; (try dsimp only at hSw); go_simp; try with_reducible rfl)
  try simp only [Act.put, q0, q1, q2]
  refine tk 20 ⟨some 23, .load 3 (.tmp 22), 3, "isa.go:31", #[eD 19, eG 18], some (18, true)⟩ (v := ?_) hHeld ?_ ?_
  rotate_left
  · (intro w hSw; (try dsimp only at hSw); go_simp; try with_reducible rfl)
  try simp only [Act.put, q0, q1, q2]
  refine wpAnyH_ready (rs := [21]) (by kernel_rfl) (by simp) ?_
  refine AllReadyH.cons (o := ⟨some 24, .call { callee := .value (.func 95), args := #[.tmp 23], argTypes := #[3] }, 4, "isa.go:31", #[eD 20, eC 18, eG 18], some (18, true)⟩) rfl (fun K hK => ?_) AllReadyH.nil
  go_simp
  go_at_call 95
  refine (HC.out _).mono ?_
  rintro e w6 ⟨rfl, rfl⟩
  clear hHeld
  refine hK.out _ _ ?_ (fun hHeld => ?_)
  · exact (HX1.out.kept hK5).cells
  clear hK K
  try simp only [Act.put, q0, q1, q2]
  refine tk 22 ⟨some 25, .pick (.tmp 21) (.tmp 24) (.const (.bool false)), 4, "isa.go:31", #[eD 18, eD 21], none⟩ (v := ?_) hHeld ?_ ?_
  rotate_left
  · (intro w hSw; (try dsimp only at hSw); go_simp; try with_reducible rfl)
  try simp only [Act.put, q0, q1, q2]
  refine tk 23 ⟨some 26, .move (.tmp 25), 4, "isa.go:31", #[eD 22, eC 21], none⟩ (v := ?_) hHeld ?_ ?_
  rotate_left
  · (intro w hSw; (try dsimp only at hSw); go_simp; try with_reducible rfl)
  try simp only [Act.put, q0, q1, q2]
  refine tk 24 ⟨some 27, .load 57 (.tmp 1), 57, "isa.go:31", #[eG 23], some (23, true)⟩ (v := ?_) hHeld ?_ ?_
  rotate_left
  · (intro w hSw; (try dsimp only at hSw); go_simp; try with_reducible rfl)
  try simp only [Act.put, q0, q1, q2]
  refine wpAnyH_ready (rs := [25]) (by kernel_rfl) (by simp) ?_
  refine AllReadyH.cons (o := ⟨some 28, .call { callee := .value (.func 96), args := #[.tmp 27], argTypes := #[57] }, 4, "isa.go:31", #[eD 24, eC 23, eG 23], some (23, true)⟩) rfl (fun K hK => ?_) AllReadyH.nil
  go_simp
  go_at_call 96
  refine (HI.out _).mono ?_
  rintro e w6 ⟨rfl, hK6⟩
  replace hK6 := hK5.trans hK6
  clear hK5
  have hK5 := hK6
  clear hK6
  clear hHeld
  refine hK.out _ _ ?_ (fun hHeld => ?_)
  · exact (HX1.out.kept hK5).cells
  clear hK K
  try simp only [Act.put, q0, q1, q2]
  refine tk 26 ⟨some 29, .pick (.tmp 26) (.tmp 28) (.const (.bool false)), 4, "isa.go:31", #[eD 23, eD 25], none⟩ (v := ?_) hHeld ?_ ?_
  rotate_left
  · (intro w hSw; (try dsimp only at hSw); go_simp; try with_reducible rfl)
  try simp only [Act.put, q0, q1, q2]
  refine tk 27 ⟨some 2, .assign (.tmp 29), 4, "isa.go:31", #[eD 26, eC 25, eP 0, eP 1, eP 2, eP 3, eP 4, eP 5, eP 6, eP 7, eP 8, eP 9, eP 10, eP 11, eP 12, eP 13, eP 14, eP 15, eP 16, eP 17, eP 18, eP 19, eP 20, eP 21, eP 22, eP 23, eP 24, eP 25, eP 26], none⟩ (v := ?_) hHeld ?_ ?_
  rotate_left
  · (intro w hSw; (try dsimp only at hSw); go_simp; try with_reducible rfl)
  try simp only [Act.put, q0, q1, q2]
  refine wpAnyH_done (by kernel_rfl) ?_ _
  go_wp2_with fail
  go_ret
  exact ⟨rfl, HB.out.trans hK5⟩
theorem may_any (k op a b c i : Int) (u : Bool) (w : World) :
    Calls Tryz.prog 78 #[.agg #[.int .i64 k, .int .i64 op, .int .i64 a, .int .i64 b, .int .i64 c, .int .i64 i, .bool u]] w fun e w' => e = .returned (.bool (I.may ⟨k, op, a, b, c, i, u⟩)) ∧ Kept w w' := by
  rw [← I.may_named]
  have HN := Lib.hid (named_any k op a b c i u)
  have HO := Lib.hid (isOp_any k op a b c i u)
  have HA := Lib.hid (isReg_any a)
  have HRB := Lib.hid (isReg_any b)
  have HC := Lib.hid (isReg_any c)
  have HI := Lib.hid (isNum_any k op a b c i u)
  by_cases hx : (⟨k, op, a, b, c, i, u⟩ : I.Ins) = I.named ⟨k, op, a, b, c, i, u⟩
  · rw [← hx] at HN
    rw [decide_eq_true hx]
    simp only [Bool.true_and] at *
    generalize I.isOp k op = e2 at *
    generalize I.reg a = e3 at *
    generalize I.reg b = e4 at *
    generalize I.reg c = e5 at *
    generalize I.isNum k op i u = e6 at *
    cases e2
    · exact may_2 k op a b c i u w HN HO
    cases e3
    · exact may_3 k op a b c i u w HN HO HA
    cases e4
    · exact may_4 k op a b c i u w HN HO HA HRB
    cases e5
    · exact may_5 k op a b c i u w HN HO HA HRB HC
    cases e6
    · exact may_6 k op a b c i u w HN HO HA HRB HC HI
    · exact may_0 k op a b c i u w HN HO HA HRB HC HI
  · rw [decide_eq_false hx]
    simp only [Bool.false_and]
    exact may_1 k op a b c i _ _ _ _ _ _ u _ w (fun ⟨h1, h2, h3, h4, h5, h6, h7⟩ => hx (I.ins_ext h1 h2 h3 h4 h5 h6 h7)) HN
end Go.Proofs.YtlmddkciamdldaaGreat

/-
  The table of package alu, how a row of it is found, and the number of an instruction.
-/
namespace Go.Proofs.YtlmddkciamdldaaGreat
open Go.RowKit
set_option linter.unusedVariables false
set_option linter.unusedSimpArgs false
set_option maxRecDepth 100000
/-- a function without variables of its own -/
def A.fun' (f : Nat) : Value := .func (.func f) #[] #[]
/-- a row of the table -/
def A.row (op : Int) (f : Nat) : Array Value := #[.int .i64 op, .func (.func f) #[] #[]]
@[simp] theorem A.size_row (op : Int) (f : Nat) : (A.row op f).size = 2 := rfl
@[simp] theorem A.row_0 (op : Int) (f : Nat) : (A.row op f)[0]? = some (.int .i64 op) := rfl
@[simp] theorem A.row_1 (op : Int) (f : Nat) : (A.row op f)[1]? = some (.func (.func f) #[] #[]) := rfl
theorem A.one_row (op : Int) (f : Nat) : (A.row op f).all (·.oneCell') = true := by simp [A.row, Value.oneCell']
/-- which function does an operation -/
def A.fn (k : Nat) : Nat := if k = 0 then 111 else if k = 1 then 112 else if k = 2 then 114 else if k = 3 then 115 else if k = 4 then 116 else if k = 5 then 117 else if k = 6 then 118 else if k = 7 then 119 else if k = 8 then 120 else if k = 9 then 124 else if k = 10 then 126 else 129
def A.table : Array Value := #[.int .i64 0, .func (.func 111) #[] #[], .int .i64 1, .func (.func 112) #[] #[], .int .i64 2, .func (.func 114) #[] #[], .int .i64 3, .func (.func 115) #[] #[], .int .i64 4, .func (.func 116) #[] #[], .int .i64 5, .func (.func 117) #[] #[], .int .i64 6, .func (.func 118) #[] #[], .int .i64 7, .func (.func 119) #[] #[], .int .i64 8, .func (.func 120) #[] #[], .int .i64 9, .func (.func 124) #[] #[], .int .i64 10, .func (.func 126) #[] #[], .int .i64 11, .func (.func 129) #[] #[]]
theorem A.one_table : A.table.all (·.oneCell') = true := by simp [A.table, Value.oneCell']
theorem A.size_table : A.table.size = 24 := rfl
theorem A.table_row (k : Nat) (hk : k < 12) : A.table.extract (Int.toNat k * 2) (Int.toNat k * 2 + 2) = A.row k (A.fn k) := by
  have : k = 0 ∨ k = 1 ∨ k = 2 ∨ k = 3 ∨ k = 4 ∨ k = 5 ∨ k = 6 ∨ k = 7 ∨ k = 8 ∨ k = 9 ∨ k = 10 ∨ k = 11 := by omega
  rcases this with rfl | rfl | rfl | rfl | rfl | rfl | rfl | rfl | rfl | rfl | rfl | rfl <;> simp [A.table, A.row, A.fn]
theorem A.infoRow (op : Int) (f : Nat) : (Tryz.prog.info? 122).map (·.size) = some (A.row op f).size := by rw [A.size_row]; kernel_rfl
theorem A.infoTab : (Tryz.prog.info? 143).map (·.size) = some A.table.size := by rw [A.size_table]; kernel_rfl
theorem A.shapeRow : shapeOf Tryz.prog 122 = some (#[.int .i64 0, .nilFunc], [(0, 1), (1, 1)]) := by kernel_rfl
theorem A.builtRow (op : Int) (f : Nat) : Tryz.prog.built 122 [(0, .int .i64 op), (1, .func (.func f) #[] #[])] = some (A.row op f) := by
  rw [built_of A.shapeRow]
  simp [Instr.fill, Value.cells, A.row]
theorem A.builtRow1 (f : Nat) : Tryz.prog.built 122 [(1, .func (.func f) #[] #[])] = some (A.row 0 f) := by
  rw [built_of A.shapeRow]
  simp [Instr.fill, Value.cells, A.row]
theorem A.builtTab : Tryz.prog.built 143 [(0, .agg (A.row 0 111)), (1, .agg (A.row 1 112)), (2, .agg (A.row 2 114)), (3, .agg (A.row 3 115)), (4, .agg (A.row 4 116)), (5, .agg (A.row 5 117)), (6, .agg (A.row 6 118)), (7, .agg (A.row 7 119)), (8, .agg (A.row 8 120)), (9, .agg (A.row 9 124)), (10, .agg (A.row 10 126)), (11, .agg (A.row 11 129))] = some A.table := by kernel_rfl
theorem operations_any (w : World) : Calls Tryz.prog 110 #[] w fun e w' => e = .returned (.agg A.table) ∧ Kept w w' := by
  go_enter Tryz.func110, Tryz.ntmps110
  go_upto_region 1 with (fail)
  refine wp_region_lit ?_
  refine build_has (o := ⟨some 1, _, _, _, _, _⟩) rfl 122 _ rfl (A.row 0 111) (by go_simp; exact A.builtRow _ _) ?_
  simp only [Act.put, List.setIfInBounds_toArray, List.set_cons_zero, List.set_cons_succ]
  refine build_has (o := ⟨some 2, _, _, _, _, _⟩) rfl 122 _ rfl (A.row 1 112) (by go_simp; exact A.builtRow _ _) ?_
  simp only [Act.put, List.setIfInBounds_toArray, List.set_cons_zero, List.set_cons_succ]
  refine build_has (o := ⟨some 3, _, _, _, _, _⟩) rfl 122 _ rfl (A.row 2 114) (by go_simp; exact A.builtRow _ _) ?_
  simp only [Act.put, List.setIfInBounds_toArray, List.set_cons_zero, List.set_cons_succ]
  refine build_has (o := ⟨some 4, _, _, _, _, _⟩) rfl 122 _ rfl (A.row 3 115) (by go_simp; exact A.builtRow _ _) ?_
  simp only [Act.put, List.setIfInBounds_toArray, List.set_cons_zero, List.set_cons_succ]
  refine build_has (o := ⟨some 5, _, _, _, _, _⟩) rfl 122 _ rfl (A.row 4 116) (by go_simp; exact A.builtRow _ _) ?_
  simp only [Act.put, List.setIfInBounds_toArray, List.set_cons_zero, List.set_cons_succ]
  refine build_has (o := ⟨some 6, _, _, _, _, _⟩) rfl 122 _ rfl (A.row 5 117) (by go_simp; exact A.builtRow _ _) ?_
  simp only [Act.put, List.setIfInBounds_toArray, List.set_cons_zero, List.set_cons_succ]
  refine build_has (o := ⟨some 7, _, _, _, _, _⟩) rfl 122 _ rfl (A.row 6 118) (by go_simp; exact A.builtRow _ _) ?_
  simp only [Act.put, List.setIfInBounds_toArray, List.set_cons_zero, List.set_cons_succ]
  refine build_has (o := ⟨some 8, _, _, _, _, _⟩) rfl 122 _ rfl (A.row 7 119) (by go_simp; exact A.builtRow _ _) ?_
  simp only [Act.put, List.setIfInBounds_toArray, List.set_cons_zero, List.set_cons_succ]
  refine build_has (o := ⟨some 9, _, _, _, _, _⟩) rfl 122 _ rfl (A.row 8 120) (by go_simp; exact A.builtRow _ _) ?_
  simp only [Act.put, List.setIfInBounds_toArray, List.set_cons_zero, List.set_cons_succ]
  refine build_has (o := ⟨some 10, _, _, _, _, _⟩) rfl 122 _ rfl (A.row 9 124) (by go_simp; exact A.builtRow _ _) ?_
  simp only [Act.put, List.setIfInBounds_toArray, List.set_cons_zero, List.set_cons_succ]
  refine build_has (o := ⟨some 11, _, _, _, _, _⟩) rfl 122 _ rfl (A.row 10 126) (by go_simp; exact A.builtRow _ _) ?_
  simp only [Act.put, List.setIfInBounds_toArray, List.set_cons_zero, List.set_cons_succ]
  refine build_has (o := ⟨some 12, _, _, _, _, _⟩) rfl 122 _ rfl (A.row 11 129) (by go_simp; exact A.builtRow _ _) ?_
  simp only [Act.put, List.setIfInBounds_toArray, List.set_cons_zero, List.set_cons_succ]
  refine build_has (o := ⟨some 13, _, _, _, _, _⟩) rfl 143 _ rfl A.table (by go_simp; exact A.builtTab) ?_
  simp only [Act.put, List.setIfInBounds_toArray, List.set_cons_zero, List.set_cons_succ]
  refine store_last (o := ⟨none, Op.store 143 _ _, _, _, _, _⟩) rfl 143 _ _ rfl _ _ rfl rfl (by simp) A.infoTab (by kernel_rfl) A.one_table ?_
  simp only [Act.put, List.setIfInBounds_toArray, List.set_cons_zero, List.set_cons_succ]
  go_wp2_with fail
  exact bodyPost_ret (results_has rfl w.heap.size rfl (Has.new _ _ _) Tryz.underlying143 rfl A.infoTab) rfl ⟨rfl, (Kept.refl w).alloc _ _⟩
set_option maxHeartbeats 1000000 in
theorem find_any (op : Nat) (hop : op < 12) (w : World) : Calls Tryz.prog 104 #[.int .i64 op] w fun e w' => e = .returned (.tuple #[.agg (A.row op (A.fn op)), .bool true]) ∧ Kept w w' := by
  have HT := Lib.hid A.table_row
  go_enter Tryz.func104, Tryz.ntmps104
  go_wp2_with (first
    | (go_at_call 110; (refine (operations_any _).mono ?_; rintro e w2 ⟨rfl, hK2⟩); (have hX := (Has.new _ _ _).kept hK2); (have hK := ((Kept.refl w).alloc _ _).trans hK2); clear hK2))
  replace hX := Lib.hid hX
  replace hK := Lib.hid hK
  go_loopw [7] (fun i wr => ∃ k : Nat, k ≤ op ∧ i = .int .i64 k ∧ Hid (Has w.heap.size #[.int .i64 0, .nilFunc] 122 wr) ∧ Hid (Kept w wr)) (fun i _ => 12 - (intOf i).toNat)
  case atStart => exact ⟨0, by omega, rfl, hX, hK⟩
  case round =>
    clear hX hK
    obtain ⟨k, hk, rfl, hX, hK⟩ := hrel
    have hk12 : k < 12 := by omega
    have HR := Lib.hid (HT.out k hk12)
    have hk12' : (k : Int) < 12 := by omega
    by_cases he : k = op
    · subst he
      go_upto_region 3 with (fail)
      refine wp_region_lit ?_
      refine index_row (o := ⟨some 9, _, _, _, _, _⟩) rfl 143 _ _ rfl _ _ (k : Int) rfl rfl Tryz.underlying143 (by omega) (by omega) Tryz.underlying122 rfl (m := 2) (by kernel_rfl) HR.out ?_
      try simp only [Act.put, q0, q1, q2]
      go_wp2_with (first
        | (with_reducible refine store_last (o := ⟨none, Op.store 122 (.tmp 5) _, _, _, _, _⟩) rfl 122 _ _ rfl _ _ rfl rfl rfl (A.infoRow _ _) (by kernel_rfl) (A.one_row _ _) ?_)
        | (with_reducible refine load_has (o := ⟨some 14, _, _, _, _, _⟩) rfl 122 _ rfl _ rfl (Has.new _ _ _) Tryz.underlying122 rfl (A.infoRow _ _) ?_)
        | (with_reducible refine store_has (o := ⟨none, Op.store 122 (.tmp 2) _, _, _, _, _⟩) rfl 122 _ _ rfl _ _ rfl rfl (hX.out.alloc _) (A.infoRow _ _) (by kernel_rfl) (A.one_row _ _) ?_))
      exact bodyPost_ret (results_has2 rfl w.heap.size rfl ((hX.out.alloc _).row _) Tryz.underlying122 rfl (A.infoRow _ _)) rfl ⟨rfl, (hK.out.alloc _ _).row (by omega) _⟩
    · have hne : ((k : Int) == (op : Int)) = false := by simp; omega
      have hne' : ¬ (k : Int) = (op : Int) := by omega
      go_upto_region 3 with (fail)
      refine wp_region_lit ?_
      refine index_row (o := ⟨some 9, _, _, _, _, _⟩) rfl 143 _ _ rfl _ _ (k : Int) rfl rfl Tryz.underlying143 (by omega) (by omega) Tryz.underlying122 rfl (m := 2) (by kernel_rfl) HR.out ?_
      try simp only [Act.put, q0, q1, q2]
      go_wp2_with (first
        | (with_reducible refine store_last (o := ⟨none, Op.store 122 (.tmp 5) _, _, _, _, _⟩) rfl 122 _ _ rfl _ _ rfl rfl rfl (A.infoRow _ _) (by kernel_rfl) (A.one_row _ _) ?_))
      go_roundw
      case rel => exact ⟨k + 1, by omega, by go_num, Lib.hid (hX.out.alloc _), Lib.hid (hK.out.alloc _ _)⟩
      case measure => simp [intOf]; omega
theorem callsFn {f : Nat} {fn : Func} (h : Tryz.prog.funcs[f]? = some fn) (h1 : (fn.name == "runtime.NumGoroutine") = false) (h2 : fn.body.isNone = false) (args : Array Value) (w : World) : (callFunc f args).run Tryz.prog w = .ok (.enter f args) w := by
  have h1' : ¬ fn.name = "runtime.NumGoroutine" := by simpa using h1
  have h2' : ¬ fn.body = none := by intro e; rw [e] at h2; cases h2
  simp [callFunc, h, h1', h2']
theorem number_imm (s : A.Regs) (op a b c i : Int) (u : Bool) (w : World) :
    Calls Tryz.prog 87 #[.agg (A.cells s), .agg #[.int .i64 2, .int .i64 op, .int .i64 a, .int .i64 b, .int .i64 c, .int .i64 i, .bool u]] w fun e w' => e = .returned (.int .u32 (i % 4294967296)) ∧ Kept w w' := by
  go_enter Tryz.func87, Tryz.ntmps87
  go_wp2
  go_ret
  exact r1k rfl (((Kept.refl w).alloc _ _).alloc _ _)
theorem number_reg (s : A.Regs) (k op a b c i : Int) (u : Bool) (hk : (k == 2) = false) (h0 : 0 ≤ c) (h1 : c < 16) (w : World) :
    Calls Tryz.prog 87 #[.agg (A.cells s), .agg #[.int .i64 k, .int .i64 op, .int .i64 a, .int .i64 b, .int .i64 c, .int .i64 i, .bool u]] w fun e w' => e = .returned (.int .u32 (s.r c.toNat)) ∧ Kept w w' := by
  have hc := A.cell_r s c.toNat (by omega)
  go_enter Tryz.func87, Tryz.ntmps87
  go_wp2
  go_ret
  exact r1k rfl (((Kept.refl w).alloc _ _).alloc _ _)
/-- no row -/
def A.norow : Array Value := #[.int .i64 0, .nilFunc]
theorem A.infoNo : (Tryz.prog.info? 122).map (·.size) = some A.norow.size := by kernel_rfl
theorem A.one_norow : A.norow.all (·.oneCell') = true := by simp [A.norow, Value.oneCell']
theorem A.builtNo : Tryz.prog.built 122 [] = some A.norow := by
  rw [built_of A.shapeRow]
  simp [Instr.fill, A.norow]
/-- operationOf of an instruction that may not be -/
theorem opOf_not (k op a b c i : Int) (u : Bool) (h : I.may ⟨k, op, a, b, c, i, u⟩ = false) (w : World) :
    Calls Tryz.prog 86 #[.agg #[.int .i64 k, .int .i64 op, .int .i64 a, .int .i64 b, .int .i64 c, .int .i64 i, .bool u]] w fun e w' => e = .returned (.tuple #[.agg A.norow, .bool false]) ∧ Kept w w' := by
  have C := Lib.hid (may_any k op a b c i u)
  rw [h] at C
  clear h
  go_enter Tryz.func86, Tryz.ntmps86
  go_wp2_with fail
  refine (C.out _).mono ?_; rintro e w2 ⟨rfl, hK2⟩
  have hX := (Has.new1 _ _ _ _).kept hK2
  have hI := ((Has.new _ _ _).alloc _).kept hK2
  have hK := (((Kept.refl w).alloc _ _).alloc _ _).trans hK2
  have c0 := hI.cell 0 _ rfl
  have c1 := hI.cell 1 _ rfl
  clear hK2 hI
  replace hX := Lib.hid hX
  replace hK := Lib.hid hK
  go_wp2_with (first
    | ((with_reducible refine build_has (o := ⟨some 7, _, _, _, _, _⟩) rfl 122 _ rfl A.norow ?_ ?_); (· (go_simp; exact A.builtNo)))
    | (with_reducible refine store_has (o := ⟨none, Op.store 122 (.tmp 2) _, _, _, _, _⟩) rfl 122 _ _ rfl _ _ rfl rfl hX.out A.infoNo (by kernel_rfl) A.one_norow ?_))
  exact bodyPost_ret (results_has2 rfl (w.heap.size + 1) rfl (hX.out.row _) Tryz.underlying122 rfl A.infoNo) rfl ⟨rfl, hK.out.row (by omega) _⟩
/-- H moved -/
theorem opOf_3 (op a b c i : Int) (u : Bool) (h : I.may ⟨3, op, a, b, c, i, u⟩ = true) (w : World) :
    Calls Tryz.prog 86 #[.agg #[.int .i64 3, .int .i64 op, .int .i64 a, .int .i64 b, .int .i64 c, .int .i64 i, .bool u]] w fun e w' => e = .returned (.tuple #[.agg (A.row 0 102), .bool true]) ∧ Kept w w' := by
  have C := Lib.hid (may_any 3 op a b c i u)
  rw [h] at C
  clear h
  go_enter Tryz.func86, Tryz.ntmps86
  go_wp2_with fail
  refine (C.out _).mono ?_; rintro e w2 ⟨rfl, hK2⟩
  have hX := (Has.new1 _ _ _ _).kept hK2
  have hI := ((Has.new _ _ _).alloc _).kept hK2
  have hK := (((Kept.refl w).alloc _ _).alloc _ _).trans hK2
  have c0 := hI.cell 0 _ rfl
  have c1 := hI.cell 1 _ rfl
  clear hK2 hI
  replace hX := Lib.hid hX
  replace hK := Lib.hid hK
  go_wp2_with (first
    | ((with_reducible refine build_has (o := ⟨some 12, _, _, _, _, _⟩) rfl 122 _ rfl (A.row 0 102) ?_ ?_); (· (go_simp; exact A.builtRow1 _)))
    | (with_reducible refine store_has (o := ⟨none, Op.store 122 (.tmp 2) _, _, _, _, _⟩) rfl 122 _ _ rfl _ _ rfl rfl hX.out (A.infoRow _ _) (by kernel_rfl) (A.one_row _ _) ?_))
  exact bodyPost_ret (results_has2 rfl (w.heap.size + 1) rfl (hX.out.row _) Tryz.underlying122 rfl (A.infoRow _ _)) rfl ⟨rfl, hK.out.row (by omega) _⟩
/-- the flags moved -/
theorem opOf_4 (op a b c i : Int) (u : Bool) (h : I.may ⟨4, op, a, b, c, i, u⟩ = true) (w : World) :
    Calls Tryz.prog 86 #[.agg #[.int .i64 4, .int .i64 op, .int .i64 a, .int .i64 b, .int .i64 c, .int .i64 i, .bool u]] w fun e w' => e = .returned (.tuple #[.agg (A.row 0 103), .bool true]) ∧ Kept w w' := by
  have C := Lib.hid (may_any 4 op a b c i u)
  rw [h] at C
  clear h
  go_enter Tryz.func86, Tryz.ntmps86
  go_wp2_with fail
  refine (C.out _).mono ?_; rintro e w2 ⟨rfl, hK2⟩
  have hX := (Has.new1 _ _ _ _).kept hK2
  have hI := ((Has.new _ _ _).alloc _).kept hK2
  have hK := (((Kept.refl w).alloc _ _).alloc _ _).trans hK2
  have c0 := hI.cell 0 _ rfl
  have c1 := hI.cell 1 _ rfl
  clear hK2 hI
  replace hX := Lib.hid hX
  replace hK := Lib.hid hK
  go_wp2_with (first
    | ((with_reducible refine build_has (o := ⟨some 15, _, _, _, _, _⟩) rfl 122 _ rfl (A.row 0 103) ?_ ?_); (· (go_simp; exact A.builtRow1 _)))
    | (with_reducible refine store_has (o := ⟨none, Op.store 122 (.tmp 2) _, _, _, _, _⟩) rfl 122 _ _ rfl _ _ rfl rfl hX.out (A.infoRow _ _) (by kernel_rfl) (A.one_row _ _) ?_))
  exact bodyPost_ret (results_has2 rfl (w.heap.size + 1) rfl (hX.out.row _) Tryz.underlying122 rfl (A.infoRow _ _)) rfl ⟨rfl, hK.out.row (by omega) _⟩
/-- another kind -/
theorem opOf_5 (op a b c i : Int) (u : Bool) (h : I.may ⟨5, op, a, b, c, i, u⟩ = true) (w : World) :
    Calls Tryz.prog 86 #[.agg #[.int .i64 5, .int .i64 op, .int .i64 a, .int .i64 b, .int .i64 c, .int .i64 i, .bool u]] w fun e w' => e = .returned (.tuple #[.agg A.norow, .bool false]) ∧ Kept w w' := by
  have C := Lib.hid (may_any 5 op a b c i u)
  rw [h] at C
  clear h
  go_enter Tryz.func86, Tryz.ntmps86
  go_wp2_with fail
  refine (C.out _).mono ?_; rintro e w2 ⟨rfl, hK2⟩
  have hX := (Has.new1 _ _ _ _).kept hK2
  have hI := ((Has.new _ _ _).alloc _).kept hK2
  have hK := (((Kept.refl w).alloc _ _).alloc _ _).trans hK2
  have c0 := hI.cell 0 _ rfl
  have c1 := hI.cell 1 _ rfl
  clear hK2 hI
  replace hX := Lib.hid hX
  replace hK := Lib.hid hK
  go_wp2_with (first
    | ((with_reducible refine build_has (o := ⟨some 24, _, _, _, _, _⟩) rfl 122 _ rfl A.norow ?_ ?_); (· (go_simp; exact A.builtNo)))
    | (with_reducible refine store_has (o := ⟨none, Op.store 122 (.tmp 2) _, _, _, _, _⟩) rfl 122 _ _ rfl _ _ rfl rfl hX.out A.infoNo (by kernel_rfl) A.one_norow ?_))
  exact bodyPost_ret (results_has2 rfl (w.heap.size + 1) rfl (hX.out.row _) Tryz.underlying122 rfl A.infoNo) rfl ⟨rfl, hK.out.row (by omega) _⟩
/-- another kind -/
theorem opOf_6 (op a b c i : Int) (u : Bool) (h : I.may ⟨6, op, a, b, c, i, u⟩ = true) (w : World) :
    Calls Tryz.prog 86 #[.agg #[.int .i64 6, .int .i64 op, .int .i64 a, .int .i64 b, .int .i64 c, .int .i64 i, .bool u]] w fun e w' => e = .returned (.tuple #[.agg A.norow, .bool false]) ∧ Kept w w' := by
  have C := Lib.hid (may_any 6 op a b c i u)
  rw [h] at C
  clear h
  go_enter Tryz.func86, Tryz.ntmps86
  go_wp2_with fail
  refine (C.out _).mono ?_; rintro e w2 ⟨rfl, hK2⟩
  have hX := (Has.new1 _ _ _ _).kept hK2
  have hI := ((Has.new _ _ _).alloc _).kept hK2
  have hK := (((Kept.refl w).alloc _ _).alloc _ _).trans hK2
  have c0 := hI.cell 0 _ rfl
  have c1 := hI.cell 1 _ rfl
  clear hK2 hI
  replace hX := Lib.hid hX
  replace hK := Lib.hid hK
  go_wp2_with (first
    | ((with_reducible refine build_has (o := ⟨some 24, _, _, _, _, _⟩) rfl 122 _ rfl A.norow ?_ ?_); (· (go_simp; exact A.builtNo)))
    | (with_reducible refine store_has (o := ⟨none, Op.store 122 (.tmp 2) _, _, _, _, _⟩) rfl 122 _ _ rfl _ _ rfl rfl hX.out A.infoNo (by kernel_rfl) A.one_norow ?_))
  exact bodyPost_ret (results_has2 rfl (w.heap.size + 1) rfl (hX.out.row _) Tryz.underlying122 rfl A.infoNo) rfl ⟨rfl, hK.out.row (by omega) _⟩
/-- another kind -/
theorem opOf_7 (op a b c i : Int) (u : Bool) (h : I.may ⟨7, op, a, b, c, i, u⟩ = true) (w : World) :
    Calls Tryz.prog 86 #[.agg #[.int .i64 7, .int .i64 op, .int .i64 a, .int .i64 b, .int .i64 c, .int .i64 i, .bool u]] w fun e w' => e = .returned (.tuple #[.agg A.norow, .bool false]) ∧ Kept w w' := by
  have C := Lib.hid (may_any 7 op a b c i u)
  rw [h] at C
  clear h
  go_enter Tryz.func86, Tryz.ntmps86
  go_wp2_with fail
  refine (C.out _).mono ?_; rintro e w2 ⟨rfl, hK2⟩
  have hX := (Has.new1 _ _ _ _).kept hK2
  have hI := ((Has.new _ _ _).alloc _).kept hK2
  have hK := (((Kept.refl w).alloc _ _).alloc _ _).trans hK2
  have c0 := hI.cell 0 _ rfl
  have c1 := hI.cell 1 _ rfl
  clear hK2 hI
  replace hX := Lib.hid hX
  replace hK := Lib.hid hK
  go_wp2_with (first
    | ((with_reducible refine build_has (o := ⟨some 24, _, _, _, _, _⟩) rfl 122 _ rfl A.norow ?_ ?_); (· (go_simp; exact A.builtNo)))
    | (with_reducible refine store_has (o := ⟨none, Op.store 122 (.tmp 2) _, _, _, _, _⟩) rfl 122 _ _ rfl _ _ rfl rfl hX.out A.infoNo (by kernel_rfl) A.one_norow ?_))
  exact bodyPost_ret (results_has2 rfl (w.heap.size + 1) rfl (hX.out.row _) Tryz.underlying122 rfl A.infoNo) rfl ⟨rfl, hK.out.row (by omega) _⟩
/-- an operation -/
theorem opOf_1 (op : Nat) (a b c i : Int) (u : Bool) (hop : op < 12) (h : I.may ⟨1, (op : Int), a, b, c, i, u⟩ = true) (w : World) :
    Calls Tryz.prog 86 #[.agg #[.int .i64 1, .int .i64 (op : Int), .int .i64 a, .int .i64 b, .int .i64 c, .int .i64 i, .bool u]] w fun e w' => e = .returned (.tuple #[.agg (A.row (op : Int) (A.fn op)), .bool true]) ∧ Kept w w' := by
  have C := Lib.hid (may_any 1 ((op : Int)) a b c i u)
  rw [h] at C
  clear h
  have FI := Lib.hid (find_any op hop)
  go_enter Tryz.func86, Tryz.ntmps86
  go_wp2_with fail
  refine (C.out _).mono ?_; rintro e w2 ⟨rfl, hK2⟩
  have hX := (Has.new1 _ _ _ _).kept hK2
  have hI := ((Has.new _ _ _).alloc _).kept hK2
  have hK := (((Kept.refl w).alloc _ _).alloc _ _).trans hK2
  have c0 := hI.cell 0 _ rfl
  have c1 := hI.cell 1 _ rfl
  clear hK2 hI
  replace hX := Lib.hid hX
  replace hK := Lib.hid hK
  go_wp2_with (first
    | (go_at_call 104; (refine (FI.out _).mono ?_; rintro e w3 ⟨rfl, hK3⟩); (have hX' := Lib.hid (hX.out.kept hK3)); (have hK' := Lib.hid (hK.out.trans hK3)); clear hK3 hX hK; (have hX := hX'); (have hK := hK'); clear hX' hK')
    | (with_reducible refine store_has (o := ⟨none, Op.store 122 (.tmp 2) _, _, _, _, _⟩) rfl 122 _ _ rfl _ _ rfl rfl (by first | exact hX.out) (A.infoRow _ _) (by kernel_rfl) (A.one_row _ _) ?_))
  exact bodyPost_ret (results_has2 rfl (w.heap.size + 1) rfl (hX.out.row _) Tryz.underlying122 rfl (A.infoRow _ _)) rfl ⟨rfl, hK.out.row (by omega) _⟩
/-- an operation -/
theorem opOf_2 (op : Nat) (a b c i : Int) (u : Bool) (hop : op < 12) (h : I.may ⟨2, (op : Int), a, b, c, i, u⟩ = true) (w : World) :
    Calls Tryz.prog 86 #[.agg #[.int .i64 2, .int .i64 (op : Int), .int .i64 a, .int .i64 b, .int .i64 c, .int .i64 i, .bool u]] w fun e w' => e = .returned (.tuple #[.agg (A.row (op : Int) (A.fn op)), .bool true]) ∧ Kept w w' := by
  have C := Lib.hid (may_any 2 ((op : Int)) a b c i u)
  rw [h] at C
  clear h
  have FI := Lib.hid (find_any op hop)
  go_enter Tryz.func86, Tryz.ntmps86
  go_wp2_with fail
  refine (C.out _).mono ?_; rintro e w2 ⟨rfl, hK2⟩
  have hX := (Has.new1 _ _ _ _).kept hK2
  have hI := ((Has.new _ _ _).alloc _).kept hK2
  have hK := (((Kept.refl w).alloc _ _).alloc _ _).trans hK2
  have c0 := hI.cell 0 _ rfl
  have c1 := hI.cell 1 _ rfl
  clear hK2 hI
  replace hX := Lib.hid hX
  replace hK := Lib.hid hK
  go_wp2_with (first
    | (go_at_call 104; (refine (FI.out _).mono ?_; rintro e w3 ⟨rfl, hK3⟩); (have hX' := Lib.hid (hX.out.kept hK3)); (have hK' := Lib.hid (hK.out.trans hK3)); clear hK3 hX hK; (have hX := hX'); (have hK := hK'); clear hX' hK')
    | (with_reducible refine store_has (o := ⟨none, Op.store 122 (.tmp 2) _, _, _, _, _⟩) rfl 122 _ _ rfl _ _ rfl rfl (by first | exact hX.out) (A.infoRow _ _) (by kernel_rfl) (A.one_row _ _) ?_))
  exact bodyPost_ret (results_has2 rfl (w.heap.size + 1) rfl (hX.out.row _) Tryz.underlying122 rfl (A.infoRow _ _)) rfl ⟨rfl, hK.out.row (by omega) _⟩
end Go.Proofs.YtlmddkciamdldaaGreat

/-
  The contract of alu.Do.
-/
namespace Go.Proofs.YtlmddkciamdldaaGreat
open Go.RowKit
set_option linter.unusedVariables false
set_option linter.unusedSimpArgs false
set_option maxRecDepth 100000
/-- what stands in memory while Do runs: the registers, the instruction, the result's place, the row -/
structure A.St (s : A.Regs) (I : Array Value) (B : Nat) (R : Array Value) (w w' : World) : Prop where
  kept : Kept w w'
  regs : Has w.heap.size (A.cells s) 26 w'
  ins : Has (w.heap.size + 1) I 57 w'
  res : Has (w.heap.size + 2) (A.cells A.none') 26 w'
  row : Has B R 122 w'
theorem A.St.step {s : A.Regs} {I : Array Value} {B : Nat} {R : Array Value} {w w1 w2 : World} (h : A.St s I B R w w1) (hK : Kept w1 w2) : A.St s I B R w w2 :=
  ⟨h.kept.trans hK, h.regs.kept hK, h.ins.kept hK, h.res.kept hK, h.row.kept hK⟩
theorem A.St.rowNew {s : A.Regs} {I : Array Value} {B : Nat} {R : Array Value} {w w1 : World} (h : A.St s I B R w w1) {B8 : Nat} (h1 : w.heap.size + 2 < B8) (h2 : B < B8) (cs : Array Value) : A.St s I B R w (w1.setRow B8 cs) :=
  ⟨h.kept.row (by omega) _, h.regs.rowOther (by omega) _, h.ins.rowOther (by omega) _, h.res.rowOther (by omega) _, h.row.rowOther (by omega) _⟩
theorem A.St.cell {s : A.Regs} {I : Array Value} {B : Nat} {R : Array Value} {w w1 : World} (h : A.St s I B R w w1) {p : Addr} (h1 : w.heap.size + 2 < p.block) (h2 : B < p.block) (v : Value) : A.St s I B R w (w1.setCell p v) :=
  ⟨h.kept.setCell (by omega) _, h.regs.other (by omega) _, h.ins.other (by omega) _, h.res.other (by omega) _, h.row.other (by omega) _⟩
theorem wp_call_value {P : Program} {o : Oper} {a : Act} {w : World} {K : Act → World → Prop} {Q : Exit → Act → World → Prop} (x : Operand) (args : Array Operand) (tys : Array TypeId) (ho : o.op = .call ⟨.value x, args, tys⟩) (f : Nat) (hx : a.eval x = .func (.func f) #[] #[])
    (hf : ∀ args w, (callFunc f args).run P w = .ok (.enter f args) w) (vs : Array Value) (hv : args.map a.eval = vs)
    (h : Calls P f vs w (fun | .returned v, w'' => K (a.put o.dst v) w'' | .panicked chain, w'' => Q (.panic chain) a w'' | .outgrown, _ => LetsOut Q)) : o.wp P a w K Q := by
  unfold Oper.wp execOp
  simp only [ho, resolve, Sem.run_bind, hx, Deferred.ofValue, Sem.run_pure, Result.andThen_ok, invoke, Array.empty_append, Array.append_empty, hf, hv, Oper.upon]
  exact h
theorem A.builtOp (s : A.Regs) (b n : Int) (u : Bool) : Tryz.prog.built 129 [(0, .agg (A.cells s)), (1, .int .u32 b), (2, .int .u32 n), (3, .bool u)] = some (A.opnd s b n u) := by
  rw [built_of (show shapeOf Tryz.prog 129 = some (A.opnd A.none' 0 0 false, [(0, 21), (21, 1), (22, 1), (23, 1)]) by kernel_rfl)]
  simp [Instr.fill, Value.cells, A.cells, A.opnd, A.none']
/-- no row: nothing is done -/
theorem do_none (s : A.Regs) (k op a b c i : Int) (u : Bool) (w : World)
    (HO : Hid (∀ w, Calls Tryz.prog 86 #[.agg #[.int .i64 k, .int .i64 op, .int .i64 a, .int .i64 b, .int .i64 c, .int .i64 i, .bool u]] w fun e w' => e = .returned (.tuple #[.agg A.norow, .bool false]) ∧ Kept w w')) :
    Calls Tryz.prog 66 #[.agg (A.cells s), .agg #[.int .i64 k, .int .i64 op, .int .i64 a, .int .i64 b, .int .i64 c, .int .i64 i, .bool u]] w fun e w' => e = .returned (.tuple #[.agg (A.cells s), .int .i64 0]) ∧ Kept w w' := by
  go_enter Tryz.func66, Tryz.ntmps66
  go_wp2_with fail
  refine (HO.out _).mono ?_; rintro e w2 ⟨rfl, hK2⟩
  have hX := (Has.new2 _ _ _ _ _).kept hK2
  have hR := (((Has.new _ _ _).alloc _).alloc _).kept hK2
  have hK := ((((Kept.refl w).alloc _ _).alloc _ _).alloc _ _).trans hK2
  clear hK2
  replace hX := Lib.hid hX
  replace hR := Lib.hid hR
  replace hK := Lib.hid hK
  go_wp2_with (first
    | (with_reducible refine store_last (o := ⟨none, Op.store 122 _ _, _, _, _, _⟩) rfl 122 _ _ rfl _ _ rfl rfl rfl A.infoNo (by kernel_rfl) A.one_norow ?_)
    | (with_reducible refine load_has (o := ⟨some 17, _, _, _, _, _⟩) rfl 26 _ rfl _ rfl (hR.out.alloc _) Tryz.underlying26 rfl (A.info25 _) ?_)
    | (with_reducible refine store_has (o := ⟨none, Op.store 26 _ _, _, _, _, _⟩) rfl 26 _ _ rfl _ _ rfl rfl (hX.out.alloc _) (A.info25 _) (by kernel_rfl) (A.one_cells _) ?_))
  exact bodyPost_ret (results_has2 rfl (w.heap.size + 2) rfl ((hX.out.alloc _).row _) Tryz.underlying26 rfl (A.info25 _)) rfl ⟨rfl, (hK.out.alloc _ _).row (by omega) _⟩
set_option maxHeartbeats 2000000 in
theorem do_ok (s s' : A.Regs) (k op a b c i n x o : Int) (u : Bool) (f : Nat) (ha0 : 0 ≤ a) (ha1 : a < 16) (hb0 : 0 ≤ b) (hb1 : b < 16) (hx0 : 0 ≤ x) (hx1 : x < 4294967296) (w : World)
    (HO : Hid (∀ w, Calls Tryz.prog 86 #[.agg #[.int .i64 k, .int .i64 op, .int .i64 a, .int .i64 b, .int .i64 c, .int .i64 i, .bool u]] w fun e w' => e = .returned (.tuple #[.agg (A.row o f), .bool true]) ∧ Kept w w'))
    (HN : Hid (∀ w, Calls Tryz.prog 87 #[.agg (A.cells s), .agg #[.int .i64 k, .int .i64 op, .int .i64 a, .int .i64 b, .int .i64 c, .int .i64 i, .bool u]] w fun e w' => e = .returned (.int .u32 n) ∧ Kept w w'))
    (HF : Hid (∀ args w, (callFunc f args).run Tryz.prog w = .ok (.enter f args) w))
    (HW : Hid (∀ w, Calls Tryz.prog f #[.agg (A.opnd s (s.r b.toNat) n u)] w fun e w' => e = .returned (.agg (A.outc x s' 0)) ∧ Kept w w')) :
    Calls Tryz.prog 66 #[.agg (A.cells s), .agg #[.int .i64 k, .int .i64 op, .int .i64 a, .int .i64 b, .int .i64 c, .int .i64 i, .bool u]] w fun e w' => e = .returned (.tuple #[.agg (A.cells (A.show' (A.set s' a.toNat x) x)), .int .i64 0]) ∧ Kept w w' := by
  go_enter Tryz.func66, Tryz.ntmps66
  go_wp2_with fail
  refine (HO.out _).mono ?_; rintro e w2 ⟨rfl, hK2⟩
  have hX : Has (w.heap.size + 2) (A.cells A.none') 26 w2 := (Has.new2 _ _ _ _ _).kept hK2
  have hR := (((Has.new _ _ _).alloc _).alloc _).kept hK2
  have hI := ((Has.new1 _ _ _ _).alloc _).kept hK2
  have hK := ((((Kept.refl w).alloc _ _).alloc _ _).alloc _ _).trans hK2
  clear hK2
  have hS : A.St s #[.int .i64 k, .int .i64 op, .int .i64 a, .int .i64 b, .int .i64 c, .int .i64 i, .bool u] w2.heap.size (A.row o f) w (w2.alloc (.cells (A.row o f) 122)) := ⟨hK.alloc _ _, hR.alloc _, hI.alloc _, hX.alloc _, Has.new _ _ _⟩
  clear hX hR hI hK
  replace hS := Lib.hid hS
  go_upto_region 4 with (first
    | (with_reducible refine store_last (o := ⟨none, Op.store 122 _ _, _, _, _, _⟩) rfl 122 _ _ rfl _ _ rfl rfl rfl (A.infoRow _ _) (by kernel_rfl) (A.one_row _ _) ?_))
  refine wp_region_held_drew (S := A.St s #[.int .i64 k, .int .i64 op, .int .i64 a, .int .i64 b, .int .i64 c, .int .i64 i, .bool u] w2.heap.size (A.row o f) w) (by kernel_rfl) ?_ (fun hHeld => ?_)
  · exact hS.out.step (Kept.refl _).drew
  refine tk 0 ⟨some 18, .fieldAddr 122 (.tmp 6) 1, 0, "alu.go:36", #[], none⟩ (v := ?_) hHeld ?_ ?_
  rotate_left
  · (intro wz hSw; (try dsimp only at hSw); have q0 := hSw.row.cell 1 _ (A.row_1 _ _); have q1 := hSw.ins.cell 3 _ rfl; have q2 := hSw.ins.cell 6 _ rfl; have q3 := hSw.regs.cell b.toNat _ (A.cell_r s b.toNat (by omega)); go_simp; try with_reducible rfl)
  try simp only [Act.put, q0, q1, q2]
  refine tk 1 ⟨some 19, .load 120 (.tmp 18), 120, "alu.go:36", #[eD 0], none⟩ (v := ?_) hHeld ?_ ?_
  rotate_left
  · (intro wz hSw; (try dsimp only at hSw); have q0 := hSw.row.cell 1 _ (A.row_1 _ _); have q1 := hSw.ins.cell 3 _ rfl; have q2 := hSw.ins.cell 6 _ rfl; have q3 := hSw.regs.cell b.toNat _ (A.cell_r s b.toNat (by omega)); go_simp; try with_reducible rfl)
  try simp only [Act.put, q0, q1, q2]
  refine tk 2 ⟨some 20, .load 26 (.tmp 2), 26, "alu.go:36", #[], none⟩ (v := ?_) hHeld ?_ ?_
  rotate_left
  · (intro wz hSw; refine exec_load_has 26 (Operand.tmp 2) ?_ _ ?_ hSw.regs Tryz.underlying26 rfl (A.info25 _) <;> rfl)
  try simp only [Act.put, q0, q1, q2]
  refine tk 3 ⟨some 21, .fieldAddr 57 (.tmp 3) 3, 0, "alu.go:36", #[], none⟩ (v := ?_) hHeld ?_ ?_
  rotate_left
  · (intro wz hSw; (try dsimp only at hSw); have q0 := hSw.row.cell 1 _ (A.row_1 _ _); have q1 := hSw.ins.cell 3 _ rfl; have q2 := hSw.ins.cell 6 _ rfl; have q3 := hSw.regs.cell b.toNat _ (A.cell_r s b.toNat (by omega)); go_simp; try with_reducible rfl)
  try simp only [Act.put, q0, q1, q2]
  refine tk 4 ⟨some 22, .load 3 (.tmp 21), 3, "alu.go:36", #[eD 3], none⟩ (v := ?_) hHeld ?_ ?_
  rotate_left
  · (intro wz hSw; (try dsimp only at hSw); have q0 := hSw.row.cell 1 _ (A.row_1 _ _); have q1 := hSw.ins.cell 3 _ rfl; have q2 := hSw.ins.cell 6 _ rfl; have q3 := hSw.regs.cell b.toNat _ (A.cell_r s b.toNat (by omega)); go_simp; try with_reducible rfl)
  try simp only [Act.put, q0, q1, q2]
  refine tk 5 ⟨some 23, .fieldAddr 26 (.tmp 2) 0, 0, "alu.go:36", #[], none⟩ (v := ?_) hHeld ?_ ?_
  rotate_left
  · (intro wz hSw; (try dsimp only at hSw); have q0 := hSw.row.cell 1 _ (A.row_1 _ _); have q1 := hSw.ins.cell 3 _ rfl; have q2 := hSw.ins.cell 6 _ rfl; have q3 := hSw.regs.cell b.toNat _ (A.cell_r s b.toNat (by omega)); go_simp; try with_reducible rfl)
  try simp only [Act.put, q0, q1, q2]
  refine tk 6 ⟨some 24, .indexAddr 24 (.tmp 23) (.tmp 22), 0, "alu.go:36", #[eD 5, eD 4], none⟩ (v := ?_) hHeld ?_ ?_
  rotate_left
  · (intro wz hSw; (try dsimp only at hSw); have q0 := hSw.row.cell 1 _ (A.row_1 _ _); have q1 := hSw.ins.cell 3 _ rfl; have q2 := hSw.ins.cell 6 _ rfl; have q3 := hSw.regs.cell b.toNat _ (A.cell_r s b.toNat (by omega)); go_simp; try with_reducible rfl)
  try simp only [Act.put, q0, q1, q2]
  refine tk 7 ⟨some 25, .load 23 (.tmp 24), 23, "alu.go:36", #[eD 6], none⟩ (v := ?_) hHeld ?_ ?_
  rotate_left
  · (intro wz hSw; (try dsimp only at hSw); have q0 := hSw.row.cell 1 _ (A.row_1 _ _); have q1 := hSw.ins.cell 3 _ rfl; have q2 := hSw.ins.cell 6 _ rfl; have q3 := hSw.regs.cell b.toNat _ (A.cell_r s b.toNat (by omega)); go_simp; try with_reducible rfl)
  try simp only [Act.put, q0, q1, q2]
  refine tk 8 ⟨some 26, .load 26 (.tmp 2), 26, "alu.go:36", #[], none⟩ (v := ?_) hHeld ?_ ?_
  rotate_left
  · (intro wz hSw; refine exec_load_has 26 (Operand.tmp 2) ?_ _ ?_ hSw.regs Tryz.underlying26 rfl (A.info25 _) <;> rfl)
  try simp only [Act.put, q0, q1, q2]
  refine tk 9 ⟨some 27, .load 57 (.tmp 3), 57, "alu.go:36", #[], none⟩ (v := ?_) hHeld ?_ ?_
  rotate_left
  · (intro wz hSw; refine exec_load_has 57 (Operand.tmp 3) ?_ _ ?_ hSw.ins Tryz.underlying57 rfl (by kernel_rfl) <;> rfl)
  try simp only [Act.put, q0, q1, q2]
  refine tk 11 ⟨some 29, .fieldAddr 57 (.tmp 3) 6, 0, "alu.go:36", #[], none⟩ (v := ?_) hHeld ?_ ?_
  rotate_left
  · (intro wz hSw; (try dsimp only at hSw); have q0 := hSw.row.cell 1 _ (A.row_1 _ _); have q1 := hSw.ins.cell 3 _ rfl; have q2 := hSw.ins.cell 6 _ rfl; have q3 := hSw.regs.cell b.toNat _ (A.cell_r s b.toNat (by omega)); go_simp; try with_reducible rfl)
  try simp only [Act.put, q0, q1, q2]
  refine tk 12 ⟨some 30, .load 4 (.tmp 29), 4, "alu.go:36", #[eD 11], none⟩ (v := ?_) hHeld ?_ ?_
  rotate_left
  · (intro wz hSw; (try dsimp only at hSw); have q0 := hSw.row.cell 1 _ (A.row_1 _ _); have q1 := hSw.ins.cell 3 _ rfl; have q2 := hSw.ins.cell 6 _ rfl; have q3 := hSw.regs.cell b.toNat _ (A.cell_r s b.toNat (by omega)); go_simp; try with_reducible rfl)
  try simp only [Act.put, q0, q1, q2]
  refine wpAnyH_ready (rs := [10, 15]) (by kernel_rfl) (by simp) ?_
  refine AllReadyH.cons (o := ⟨some 28, .call { callee := .value (.func 87), args := #[.tmp 26, .tmp 27], argTypes := #[26, 57] }, 23, "alu.go:36", #[eD 8, eD 9], none⟩) rfl (fun K hK => ?_) (AllReadyH.cons (o := ⟨some 8, .alloc 126, 0, "alu.go:36", #[], none⟩) rfl (fun K hK => ?_) (AllReadyH.nil))
  · go_simp
    go_at_call 87
    refine (HN.out _).mono ?_
    rintro e w5 ⟨rfl, hK5⟩
    have hN := (show (A.St s #[.int .i64 k, .int .i64 op, .int .i64 a, .int .i64 b, .int .i64 c, .int .i64 i, .bool u] w2.heap.size (A.row o f) w) _ from hHeld.step hK5)
    clear hHeld
    refine hK.out _ _ hN (fun hHeld => ?_)
    clear hK K hN
    try simp only [Act.put, q0, q1, q2]
    refine tk 13 ⟨some 31, .build 129 #[(0, .tmp 20), (1, .tmp 25), (2, .tmp 28), (3, .tmp 30)], 129, "alu.go:36", #[eD 2, eD 7, eD 10, eD 12], none⟩ (v := ?_) hHeld ?_ ?_
    rotate_left
    · (intro wz hSw; refine exec_build (o := ⟨some 31, .build 129 #[(0, .tmp 20), (1, .tmp 25), (2, .tmp 28), (3, .tmp 30)], 129, "alu.go:36", #[eD 2, eD 7, eD 10, eD 12], none⟩) 129 _ rfl (A.opnd s (s.r b.toNat) n u) ?_; (go_simp; exact A.builtOp _ _ _ _))
    try simp only [Act.put, q0, q1, q2]
    refine wpAnyH_ready (rs := [14, 15]) (by kernel_rfl) (by simp) ?_
    refine AllReadyH.cons (o := ⟨some 32, .call { callee := .value (.tmp 19), args := #[.tmp 31], argTypes := #[129] }, 126, "alu.go:36", #[eD 1, eD 13, eC 10], none⟩) rfl (fun K hK => ?_) (AllReadyH.cons (o := ⟨some 8, .alloc 126, 0, "alu.go:36", #[], none⟩) rfl (fun K hK => ?_) (AllReadyH.nil))
    · refine wp_call_value (o := ⟨some 32, .call { callee := .value (.tmp 19), args := #[.tmp 31], argTypes := #[129] }, 126, "alu.go:36", #[eD 1, eD 13, eC 10], none⟩) _ _ _ rfl f ?_ HF.out #[.agg (A.opnd s (s.r b.toNat) n u)] ?_ ?_
      · rfl
      · go_simp
      refine (HW.out _).mono ?_
      rintro e w6 ⟨rfl, hK5⟩
      have hN := (show (A.St s #[.int .i64 k, .int .i64 op, .int .i64 a, .int .i64 b, .int .i64 c, .int .i64 i, .bool u] w2.heap.size (A.row o f) w) _ from hHeld.step hK5)
      clear hHeld
      refine hK.out _ _ hN (fun hHeld => ?_)
      clear hK K hN
      try simp only [Act.put, q0, q1, q2]
      refine wpAnyH_ready (rs := [15]) (by kernel_rfl) (by simp) ?_
      refine AllReadyH.cons (o := ⟨some 8, .alloc 126, 0, "alu.go:36", #[], none⟩) rfl (fun K hK => ?_) (AllReadyH.nil)
      have hl1 := hHeld.res.lt
      have hl2 := hHeld.row.lt
      go_simp
      have hA := Has.new #[.int .u32 0, .int .u32 0, .int .u32 0, .int .u32 0, .int .u32 0, .int .u32 0, .int .u32 0, .int .u32 0, .int .u32 0, .int .u32 0, .int .u32 0, .int .u32 0, .int .u32 0, .int .u32 0, .int .u32 0, .int .u32 0, .int .u32 0, .int .u32 0, .bool false, .bool false, .bool false, .bool false, .int .i64 0] 126 w6
      have hN := (show (A.St s #[.int .i64 k, .int .i64 op, .int .i64 a, .int .i64 b, .int .i64 c, .int .i64 i, .bool u] w2.heap.size (A.row o f) w) _ from hHeld.step ((Kept.refl _).alloc #[.int .u32 0, .int .u32 0, .int .u32 0, .int .u32 0, .int .u32 0, .int .u32 0, .int .u32 0, .int .u32 0, .int .u32 0, .int .u32 0, .int .u32 0, .int .u32 0, .int .u32 0, .int .u32 0, .int .u32 0, .int .u32 0, .int .u32 0, .int .u32 0, .bool false, .bool false, .bool false, .bool false, .int .i64 0] 126))
      clear hHeld
      refine hK.out _ _ hN (fun hHeld => ?_)
      clear hK K hN
      try simp only [Act.put, q0, q1, q2]
      refine wpAnyH_ready (rs := [16]) (by kernel_rfl) (by simp) ?_
      refine AllReadyH.cons (o := ⟨none, .store 126 (.tmp 8) (.tmp 32), 0, "alu.go:36", #[eD 15, eD 14, eC 14, eP 0, eP 1, eP 2, eP 3, eP 4, eP 5, eP 6, eP 7, eP 8, eP 9, eP 10, eP 11, eP 12, eP 13, eP 14, eP 15], none⟩) rfl (fun K hK => ?_) (AllReadyH.nil)
      refine wp_store_row (o := ⟨none, .store 126 (.tmp 8) (.tmp 32), 0, "alu.go:36", #[eD 15, eD 14, eC 14, eP 0, eP 1, eP 2, eP 3, eP 4, eP 5, eP 6, eP 7, eP 8, eP 9, eP 10, eP 11, eP 12, eP 13, eP 14, eP 15], none⟩) 126 _ _ rfl _ (A.outc x s' 0) ?_ ?_ 126 _ hA (A.infoOut _ _ _) (by kernel_rfl) (A.one_outc _ _ _) ?_
      · rfl
      · rfl
      replace hA := hA.row (A.outc x s' 0)
      have hN := (show (A.St s #[.int .i64 k, .int .i64 op, .int .i64 a, .int .i64 b, .int .i64 c, .int .i64 i, .bool u] w2.heap.size (A.row o f) w) _ from hHeld.rowNew (by omega) (by omega) (A.outc x s' 0))
      clear hHeld
      refine hK.out _ _ hN (fun hHeld => ?_)
      clear hK K hN
      try simp only [Act.put, q0, q1, q2]
      refine wpAnyH_done (by kernel_rfl) ?_ _
      generalize World.setRow _ _ _ = wF at hHeld hA
      have q1 := hA.cell 0 _ (A.outc_x _ _ _)
      have q2 := hA.cell 22 _ (A.outc_t _ _ _)
      have hl3 := hHeld.res.lt
      have hl4 := hHeld.row.lt
      have hl5 := hA.lt
      replace hHeld := Lib.hid hHeld
      replace hA := Lib.hid hA
      clear hS
      go_upto_region 8 with (first
        | (with_reducible refine load_part (o := ⟨some 40, _, _, _, _, _⟩) rfl 26 _ rfl _ 1 rfl (A.cells s') hA.out (A.outc_regs _ _ _) Tryz.underlying26 rfl (A.info25 _) ?_)
        | (with_reducible refine store_last (o := ⟨none, Op.store 26 (.tmp 9) _, _, _, _, _⟩) rfl 26 _ _ rfl _ _ rfl rfl rfl (A.info25 _) (by kernel_rfl) (A.one_cells _) ?_))
      clear q1 q2
      have hG := hHeld.out.step ((Kept.refl wF).alloc (A.cells s') 26)
      have h9 := Has.new (A.cells s') 26 wF
      have h8 := hA.out.alloc (.cells (A.cells s') 26)
      clear hHeld hA
      generalize wF.heap.size = B9 at *
      generalize wF.alloc _ = wG at *
      have c2 := hG.ins.cell 2 _ rfl
      have c3 := h8.cell 0 _ (A.outc_x _ _ _)
      have c9 := h9.cell a.toNat _ (A.cell_r s' a.toNat (by omega))
      have f9 := h9.free a.toNat
      replace hG := Lib.hid hG
      replace h9 := Lib.hid h9
      replace h8 := Lib.hid h8
      go_upto_region 9 with (fail)
      clear c2 c3 c9 f9
      have hH := hG.out.cell (p := ⟨B9, a.toNat, none⟩) hl3 hl4 (.int .u32 x)
      have h9' := h9.out.set a.toNat (.int .u32 x)
      rw [A.set_r s' a.toNat (by omega) x] at h9'
      have h8' := h8.out.other (p := ⟨B9, a.toNat, none⟩) (Nat.ne_of_lt hl5) (.int .u32 x)
      clear hG h9 h8
      generalize World.setCell _ _ _ = wH at *
      have c3 := h8'.cell 0 _ (A.outc_x _ _ _)
      replace hH := Lib.hid hH
      replace h9' := Lib.hid h9'
      clear h8'
      go_wp2_with (first
        | (with_reducible refine load_has (o := ⟨some 47, _, _, _, _, _⟩) rfl 26 _ rfl _ rfl h9'.out Tryz.underlying26 rfl (A.info25 _) ?_)
        | (with_reducible refine store_has (o := ⟨none, Op.store 26 (.tmp 4) _, _, _, _, _⟩) rfl 26 _ _ rfl _ _ rfl rfl hX.out (A.info25 _) (by kernel_rfl) (A.one_cells _) ?_)
        | (go_at_call 88; (refine (show_any _ x hx0 hx1 _).mono ?_; rintro e w7 ⟨rfl, hK7⟩); (have hX := Lib.hid (hH.out.res.kept hK7)); (have hK := Lib.hid (hH.out.kept.trans hK7)); clear hK7 c3))
      exact bodyPost_ret (results_has2 rfl (w.heap.size + 2) rfl (hX.out.row _) Tryz.underlying26 rfl (A.info25 _)) rfl ⟨rfl, hK.out.row (by omega) _⟩
    · have hl1 := hHeld.res.lt
      have hl2 := hHeld.row.lt
      go_simp
      have hA := Has.new #[.int .u32 0, .int .u32 0, .int .u32 0, .int .u32 0, .int .u32 0, .int .u32 0, .int .u32 0, .int .u32 0, .int .u32 0, .int .u32 0, .int .u32 0, .int .u32 0, .int .u32 0, .int .u32 0, .int .u32 0, .int .u32 0, .int .u32 0, .int .u32 0, .bool false, .bool false, .bool false, .bool false, .int .i64 0] 126 w5
      have hN := (show (A.St s #[.int .i64 k, .int .i64 op, .int .i64 a, .int .i64 b, .int .i64 c, .int .i64 i, .bool u] w2.heap.size (A.row o f) w) _ from hHeld.step ((Kept.refl _).alloc #[.int .u32 0, .int .u32 0, .int .u32 0, .int .u32 0, .int .u32 0, .int .u32 0, .int .u32 0, .int .u32 0, .int .u32 0, .int .u32 0, .int .u32 0, .int .u32 0, .int .u32 0, .int .u32 0, .int .u32 0, .int .u32 0, .int .u32 0, .int .u32 0, .bool false, .bool false, .bool false, .bool false, .int .i64 0] 126))
      clear hHeld
      refine hK.out _ _ hN (fun hHeld => ?_)
      clear hK K hN
      try simp only [Act.put, q0, q1, q2]
      refine wpAnyH_ready (rs := [14]) (by kernel_rfl) (by simp) ?_
      refine AllReadyH.cons (o := ⟨some 32, .call { callee := .value (.tmp 19), args := #[.tmp 31], argTypes := #[129] }, 126, "alu.go:36", #[eD 1, eD 13, eC 10], none⟩) rfl (fun K hK => ?_) (AllReadyH.nil)
      refine wp_call_value (o := ⟨some 32, .call { callee := .value (.tmp 19), args := #[.tmp 31], argTypes := #[129] }, 126, "alu.go:36", #[eD 1, eD 13, eC 10], none⟩) _ _ _ rfl f ?_ HF.out #[.agg (A.opnd s (s.r b.toNat) n u)] ?_ ?_
      · rfl
      · go_simp
      refine (HW.out _).mono ?_
      rintro e w6 ⟨rfl, hK5⟩
      replace hA := hA.kept hK5
      have hN := (show (A.St s #[.int .i64 k, .int .i64 op, .int .i64 a, .int .i64 b, .int .i64 c, .int .i64 i, .bool u] w2.heap.size (A.row o f) w) _ from hHeld.step hK5)
      clear hHeld
      refine hK.out _ _ hN (fun hHeld => ?_)
      clear hK K hN
      try simp only [Act.put, q0, q1, q2]
      refine wpAnyH_ready (rs := [16]) (by kernel_rfl) (by simp) ?_
      refine AllReadyH.cons (o := ⟨none, .store 126 (.tmp 8) (.tmp 32), 0, "alu.go:36", #[eD 15, eD 14, eC 14, eP 0, eP 1, eP 2, eP 3, eP 4, eP 5, eP 6, eP 7, eP 8, eP 9, eP 10, eP 11, eP 12, eP 13, eP 14, eP 15], none⟩) rfl (fun K hK => ?_) (AllReadyH.nil)
      refine wp_store_row (o := ⟨none, .store 126 (.tmp 8) (.tmp 32), 0, "alu.go:36", #[eD 15, eD 14, eC 14, eP 0, eP 1, eP 2, eP 3, eP 4, eP 5, eP 6, eP 7, eP 8, eP 9, eP 10, eP 11, eP 12, eP 13, eP 14, eP 15], none⟩) 126 _ _ rfl _ (A.outc x s' 0) ?_ ?_ 126 _ hA (A.infoOut _ _ _) (by kernel_rfl) (A.one_outc _ _ _) ?_
      · rfl
      · rfl
      replace hA := hA.row (A.outc x s' 0)
      have hN := (show (A.St s #[.int .i64 k, .int .i64 op, .int .i64 a, .int .i64 b, .int .i64 c, .int .i64 i, .bool u] w2.heap.size (A.row o f) w) _ from hHeld.rowNew (by omega) (by omega) (A.outc x s' 0))
      clear hHeld
      refine hK.out _ _ hN (fun hHeld => ?_)
      clear hK K hN
      try simp only [Act.put, q0, q1, q2]
      refine wpAnyH_done (by kernel_rfl) ?_ _
      generalize World.setRow _ _ _ = wF at hHeld hA
      have q1 := hA.cell 0 _ (A.outc_x _ _ _)
      have q2 := hA.cell 22 _ (A.outc_t _ _ _)
      have hl3 := hHeld.res.lt
      have hl4 := hHeld.row.lt
      have hl5 := hA.lt
      replace hHeld := Lib.hid hHeld
      replace hA := Lib.hid hA
      clear hS
      go_upto_region 8 with (first
        | (with_reducible refine load_part (o := ⟨some 40, _, _, _, _, _⟩) rfl 26 _ rfl _ 1 rfl (A.cells s') hA.out (A.outc_regs _ _ _) Tryz.underlying26 rfl (A.info25 _) ?_)
        | (with_reducible refine store_last (o := ⟨none, Op.store 26 (.tmp 9) _, _, _, _, _⟩) rfl 26 _ _ rfl _ _ rfl rfl rfl (A.info25 _) (by kernel_rfl) (A.one_cells _) ?_))
      clear q1 q2
      have hG := hHeld.out.step ((Kept.refl wF).alloc (A.cells s') 26)
      have h9 := Has.new (A.cells s') 26 wF
      have h8 := hA.out.alloc (.cells (A.cells s') 26)
      clear hHeld hA
      generalize wF.heap.size = B9 at *
      generalize wF.alloc _ = wG at *
      have c2 := hG.ins.cell 2 _ rfl
      have c3 := h8.cell 0 _ (A.outc_x _ _ _)
      have c9 := h9.cell a.toNat _ (A.cell_r s' a.toNat (by omega))
      have f9 := h9.free a.toNat
      replace hG := Lib.hid hG
      replace h9 := Lib.hid h9
      replace h8 := Lib.hid h8
      go_upto_region 9 with (fail)
      clear c2 c3 c9 f9
      have hH := hG.out.cell (p := ⟨B9, a.toNat, none⟩) hl3 hl4 (.int .u32 x)
      have h9' := h9.out.set a.toNat (.int .u32 x)
      rw [A.set_r s' a.toNat (by omega) x] at h9'
      have h8' := h8.out.other (p := ⟨B9, a.toNat, none⟩) (Nat.ne_of_lt hl5) (.int .u32 x)
      clear hG h9 h8
      generalize World.setCell _ _ _ = wH at *
      have c3 := h8'.cell 0 _ (A.outc_x _ _ _)
      replace hH := Lib.hid hH
      replace h9' := Lib.hid h9'
      clear h8'
      go_wp2_with (first
        | (with_reducible refine load_has (o := ⟨some 47, _, _, _, _, _⟩) rfl 26 _ rfl _ rfl h9'.out Tryz.underlying26 rfl (A.info25 _) ?_)
        | (with_reducible refine store_has (o := ⟨none, Op.store 26 (.tmp 4) _, _, _, _, _⟩) rfl 26 _ _ rfl _ _ rfl rfl hX.out (A.info25 _) (by kernel_rfl) (A.one_cells _) ?_)
        | (go_at_call 88; (refine (show_any _ x hx0 hx1 _).mono ?_; rintro e w7 ⟨rfl, hK7⟩); (have hX := Lib.hid (hH.out.res.kept hK7)); (have hK := Lib.hid (hH.out.kept.trans hK7)); clear hK7 c3))
      exact bodyPost_ret (results_has2 rfl (w.heap.size + 2) rfl (hX.out.row _) Tryz.underlying26 rfl (A.info25 _)) rfl ⟨rfl, hK.out.row (by omega) _⟩
  · have hl1 := hHeld.res.lt
    have hl2 := hHeld.row.lt
    go_simp
    have hA := Has.new #[.int .u32 0, .int .u32 0, .int .u32 0, .int .u32 0, .int .u32 0, .int .u32 0, .int .u32 0, .int .u32 0, .int .u32 0, .int .u32 0, .int .u32 0, .int .u32 0, .int .u32 0, .int .u32 0, .int .u32 0, .int .u32 0, .int .u32 0, .int .u32 0, .bool false, .bool false, .bool false, .bool false, .int .i64 0] 126 ((w2.alloc (.cells (A.row o f) 122)).drew)
    have e8 : ((w2.alloc (.cells (A.row o f) 122)).drew).heap.size = w2.heap.size + 1 := by show (w2.heap.push _).size = _; simp
    rw [e8] at hA hl1 hl2
    clear e8
    have hN := (show (A.St s #[.int .i64 k, .int .i64 op, .int .i64 a, .int .i64 b, .int .i64 c, .int .i64 i, .bool u] w2.heap.size (A.row o f) w) _ from hHeld.step ((Kept.refl _).alloc #[.int .u32 0, .int .u32 0, .int .u32 0, .int .u32 0, .int .u32 0, .int .u32 0, .int .u32 0, .int .u32 0, .int .u32 0, .int .u32 0, .int .u32 0, .int .u32 0, .int .u32 0, .int .u32 0, .int .u32 0, .int .u32 0, .int .u32 0, .int .u32 0, .bool false, .bool false, .bool false, .bool false, .int .i64 0] 126))
    clear hHeld
    refine hK.out _ _ hN (fun hHeld => ?_)
    clear hK K hN
    try simp only [Act.put, q0, q1, q2]
    refine wpAnyH_ready (rs := [10]) (by kernel_rfl) (by simp) ?_
    refine AllReadyH.cons (o := ⟨some 28, .call { callee := .value (.func 87), args := #[.tmp 26, .tmp 27], argTypes := #[26, 57] }, 23, "alu.go:36", #[eD 8, eD 9], none⟩) rfl (fun K hK => ?_) (AllReadyH.nil)
    go_simp
    go_at_call 87
    refine (HN.out _).mono ?_
    rintro e w5 ⟨rfl, hK5⟩
    replace hA := hA.kept hK5
    have hN := (show (A.St s #[.int .i64 k, .int .i64 op, .int .i64 a, .int .i64 b, .int .i64 c, .int .i64 i, .bool u] w2.heap.size (A.row o f) w) _ from hHeld.step hK5)
    clear hHeld
    refine hK.out _ _ hN (fun hHeld => ?_)
    clear hK K hN
    try simp only [Act.put, q0, q1, q2]
    refine tk 13 ⟨some 31, .build 129 #[(0, .tmp 20), (1, .tmp 25), (2, .tmp 28), (3, .tmp 30)], 129, "alu.go:36", #[eD 2, eD 7, eD 10, eD 12], none⟩ (v := ?_) hHeld ?_ ?_
    rotate_left
    · (intro wz hSw; refine exec_build (o := ⟨some 31, .build 129 #[(0, .tmp 20), (1, .tmp 25), (2, .tmp 28), (3, .tmp 30)], 129, "alu.go:36", #[eD 2, eD 7, eD 10, eD 12], none⟩) 129 _ rfl (A.opnd s (s.r b.toNat) n u) ?_; (go_simp; exact A.builtOp _ _ _ _))
    try simp only [Act.put, q0, q1, q2]
    refine wpAnyH_ready (rs := [14]) (by kernel_rfl) (by simp) ?_
    refine AllReadyH.cons (o := ⟨some 32, .call { callee := .value (.tmp 19), args := #[.tmp 31], argTypes := #[129] }, 126, "alu.go:36", #[eD 1, eD 13, eC 10], none⟩) rfl (fun K hK => ?_) (AllReadyH.nil)
    refine wp_call_value (o := ⟨some 32, .call { callee := .value (.tmp 19), args := #[.tmp 31], argTypes := #[129] }, 126, "alu.go:36", #[eD 1, eD 13, eC 10], none⟩) _ _ _ rfl f ?_ HF.out #[.agg (A.opnd s (s.r b.toNat) n u)] ?_ ?_
    · rfl
    · go_simp
    refine (HW.out _).mono ?_
    rintro e w6 ⟨rfl, hK5⟩
    replace hA := hA.kept hK5
    have hN := (show (A.St s #[.int .i64 k, .int .i64 op, .int .i64 a, .int .i64 b, .int .i64 c, .int .i64 i, .bool u] w2.heap.size (A.row o f) w) _ from hHeld.step hK5)
    clear hHeld
    refine hK.out _ _ hN (fun hHeld => ?_)
    clear hK K hN
    try simp only [Act.put, q0, q1, q2]
    refine wpAnyH_ready (rs := [16]) (by kernel_rfl) (by simp) ?_
    refine AllReadyH.cons (o := ⟨none, .store 126 (.tmp 8) (.tmp 32), 0, "alu.go:36", #[eD 15, eD 14, eC 14, eP 0, eP 1, eP 2, eP 3, eP 4, eP 5, eP 6, eP 7, eP 8, eP 9, eP 10, eP 11, eP 12, eP 13, eP 14, eP 15], none⟩) rfl (fun K hK => ?_) (AllReadyH.nil)
    refine wp_store_row (o := ⟨none, .store 126 (.tmp 8) (.tmp 32), 0, "alu.go:36", #[eD 15, eD 14, eC 14, eP 0, eP 1, eP 2, eP 3, eP 4, eP 5, eP 6, eP 7, eP 8, eP 9, eP 10, eP 11, eP 12, eP 13, eP 14, eP 15], none⟩) 126 _ _ rfl _ (A.outc x s' 0) ?_ ?_ 126 _ hA (A.infoOut _ _ _) (by kernel_rfl) (A.one_outc _ _ _) ?_
    · rfl
    · rfl
    replace hA := hA.row (A.outc x s' 0)
    have hN := (show (A.St s #[.int .i64 k, .int .i64 op, .int .i64 a, .int .i64 b, .int .i64 c, .int .i64 i, .bool u] w2.heap.size (A.row o f) w) _ from hHeld.rowNew (by omega) (by omega) (A.outc x s' 0))
    clear hHeld
    refine hK.out _ _ hN (fun hHeld => ?_)
    clear hK K hN
    try simp only [Act.put, q0, q1, q2]
    refine wpAnyH_done (by kernel_rfl) ?_ _
    generalize World.setRow _ _ _ = wF at hHeld hA
    have q1 := hA.cell 0 _ (A.outc_x _ _ _)
    have q2 := hA.cell 22 _ (A.outc_t _ _ _)
    have hl3 := hHeld.res.lt
    have hl4 := hHeld.row.lt
    have hl5 := hA.lt
    replace hHeld := Lib.hid hHeld
    replace hA := Lib.hid hA
    clear hS
    go_upto_region 8 with (first
      | (with_reducible refine load_part (o := ⟨some 40, _, _, _, _, _⟩) rfl 26 _ rfl _ 1 rfl (A.cells s') hA.out (A.outc_regs _ _ _) Tryz.underlying26 rfl (A.info25 _) ?_)
      | (with_reducible refine store_last (o := ⟨none, Op.store 26 (.tmp 9) _, _, _, _, _⟩) rfl 26 _ _ rfl _ _ rfl rfl rfl (A.info25 _) (by kernel_rfl) (A.one_cells _) ?_))
    clear q1 q2
    have hG := hHeld.out.step ((Kept.refl wF).alloc (A.cells s') 26)
    have h9 := Has.new (A.cells s') 26 wF
    have h8 := hA.out.alloc (.cells (A.cells s') 26)
    clear hHeld hA
    generalize wF.heap.size = B9 at *
    generalize wF.alloc _ = wG at *
    have c2 := hG.ins.cell 2 _ rfl
    have c3 := h8.cell 0 _ (A.outc_x _ _ _)
    have c9 := h9.cell a.toNat _ (A.cell_r s' a.toNat (by omega))
    have f9 := h9.free a.toNat
    replace hG := Lib.hid hG
    replace h9 := Lib.hid h9
    replace h8 := Lib.hid h8
    go_upto_region 9 with (fail)
    clear c2 c3 c9 f9
    have hH := hG.out.cell (p := ⟨B9, a.toNat, none⟩) hl3 hl4 (.int .u32 x)
    have h9' := h9.out.set a.toNat (.int .u32 x)
    rw [A.set_r s' a.toNat (by omega) x] at h9'
    have h8' := h8.out.other (p := ⟨B9, a.toNat, none⟩) (Nat.ne_of_lt hl5) (.int .u32 x)
    clear hG h9 h8
    generalize World.setCell _ _ _ = wH at *
    have c3 := h8'.cell 0 _ (A.outc_x _ _ _)
    replace hH := Lib.hid hH
    replace h9' := Lib.hid h9'
    clear h8'
    go_wp2_with (first
      | (with_reducible refine load_has (o := ⟨some 47, _, _, _, _, _⟩) rfl 26 _ rfl _ rfl h9'.out Tryz.underlying26 rfl (A.info25 _) ?_)
      | (with_reducible refine store_has (o := ⟨none, Op.store 26 (.tmp 4) _, _, _, _, _⟩) rfl 26 _ _ rfl _ _ rfl rfl hX.out (A.info25 _) (by kernel_rfl) (A.one_cells _) ?_)
      | (go_at_call 88; (refine (show_any _ x hx0 hx1 _).mono ?_; rintro e w7 ⟨rfl, hK7⟩); (have hX := Lib.hid (hH.out.res.kept hK7)); (have hK := Lib.hid (hH.out.kept.trans hK7)); clear hK7 c3))
    exact bodyPost_ret (results_has2 rfl (w.heap.size + 2) rfl (hX.out.row _) Tryz.underlying26 rfl (A.info25 _)) rfl ⟨rfl, hK.out.row (by omega) _⟩
set_option maxHeartbeats 2000000 in
theorem do_trap (s s' : A.Regs) (k op a b c i n x o : Int) (u : Bool) (f : Nat) (ha0 : 0 ≤ a) (ha1 : a < 16) (hb0 : 0 ≤ b) (hb1 : b < 16) (w : World)
    (HO : Hid (∀ w, Calls Tryz.prog 86 #[.agg #[.int .i64 k, .int .i64 op, .int .i64 a, .int .i64 b, .int .i64 c, .int .i64 i, .bool u]] w fun e w' => e = .returned (.tuple #[.agg (A.row o f), .bool true]) ∧ Kept w w'))
    (HN : Hid (∀ w, Calls Tryz.prog 87 #[.agg (A.cells s), .agg #[.int .i64 k, .int .i64 op, .int .i64 a, .int .i64 b, .int .i64 c, .int .i64 i, .bool u]] w fun e w' => e = .returned (.int .u32 n) ∧ Kept w w'))
    (HF : Hid (∀ args w, (callFunc f args).run Tryz.prog w = .ok (.enter f args) w))
    (HW : Hid (∀ w, Calls Tryz.prog f #[.agg (A.opnd s (s.r b.toNat) n u)] w fun e w' => e = .returned (.agg (A.outc x s' 5)) ∧ Kept w w')) :
    Calls Tryz.prog 66 #[.agg (A.cells s), .agg #[.int .i64 k, .int .i64 op, .int .i64 a, .int .i64 b, .int .i64 c, .int .i64 i, .bool u]] w fun e w' => e = .returned (.tuple #[.agg (A.cells s), .int .i64 5]) ∧ Kept w w' := by
  go_enter Tryz.func66, Tryz.ntmps66
  go_wp2_with fail
  refine (HO.out _).mono ?_; rintro e w2 ⟨rfl, hK2⟩
  have hX : Has (w.heap.size + 2) (A.cells A.none') 26 w2 := (Has.new2 _ _ _ _ _).kept hK2
  have hR := (((Has.new _ _ _).alloc _).alloc _).kept hK2
  have hI := ((Has.new1 _ _ _ _).alloc _).kept hK2
  have hK := ((((Kept.refl w).alloc _ _).alloc _ _).alloc _ _).trans hK2
  clear hK2
  have hS : A.St s #[.int .i64 k, .int .i64 op, .int .i64 a, .int .i64 b, .int .i64 c, .int .i64 i, .bool u] w2.heap.size (A.row o f) w (w2.alloc (.cells (A.row o f) 122)) := ⟨hK.alloc _ _, hR.alloc _, hI.alloc _, hX.alloc _, Has.new _ _ _⟩
  clear hX hR hI hK
  replace hS := Lib.hid hS
  go_upto_region 4 with (first
    | (with_reducible refine store_last (o := ⟨none, Op.store 122 _ _, _, _, _, _⟩) rfl 122 _ _ rfl _ _ rfl rfl rfl (A.infoRow _ _) (by kernel_rfl) (A.one_row _ _) ?_))
  refine wp_region_held_drew (S := A.St s #[.int .i64 k, .int .i64 op, .int .i64 a, .int .i64 b, .int .i64 c, .int .i64 i, .bool u] w2.heap.size (A.row o f) w) (by kernel_rfl) ?_ (fun hHeld => ?_)
  · exact hS.out.step (Kept.refl _).drew
  refine tk 0 ⟨some 18, .fieldAddr 122 (.tmp 6) 1, 0, "alu.go:36", #[], none⟩ (v := ?_) hHeld ?_ ?_
  rotate_left
  · (intro wz hSw; (try dsimp only at hSw); have q0 := hSw.row.cell 1 _ (A.row_1 _ _); have q1 := hSw.ins.cell 3 _ rfl; have q2 := hSw.ins.cell 6 _ rfl; have q3 := hSw.regs.cell b.toNat _ (A.cell_r s b.toNat (by omega)); go_simp; try with_reducible rfl)
  try simp only [Act.put, q0, q1, q2]
  refine tk 1 ⟨some 19, .load 120 (.tmp 18), 120, "alu.go:36", #[eD 0], none⟩ (v := ?_) hHeld ?_ ?_
  rotate_left
  · (intro wz hSw; (try dsimp only at hSw); have q0 := hSw.row.cell 1 _ (A.row_1 _ _); have q1 := hSw.ins.cell 3 _ rfl; have q2 := hSw.ins.cell 6 _ rfl; have q3 := hSw.regs.cell b.toNat _ (A.cell_r s b.toNat (by omega)); go_simp; try with_reducible rfl)
  try simp only [Act.put, q0, q1, q2]
  refine tk 2 ⟨some 20, .load 26 (.tmp 2), 26, "alu.go:36", #[], none⟩ (v := ?_) hHeld ?_ ?_
  rotate_left
  · (intro wz hSw; refine exec_load_has 26 (Operand.tmp 2) ?_ _ ?_ hSw.regs Tryz.underlying26 rfl (A.info25 _) <;> rfl)
  try simp only [Act.put, q0, q1, q2]
  refine tk 3 ⟨some 21, .fieldAddr 57 (.tmp 3) 3, 0, "alu.go:36", #[], none⟩ (v := ?_) hHeld ?_ ?_
  rotate_left
  · (intro wz hSw; (try dsimp only at hSw); have q0 := hSw.row.cell 1 _ (A.row_1 _ _); have q1 := hSw.ins.cell 3 _ rfl; have q2 := hSw.ins.cell 6 _ rfl; have q3 := hSw.regs.cell b.toNat _ (A.cell_r s b.toNat (by omega)); go_simp; try with_reducible rfl)
  try simp only [Act.put, q0, q1, q2]
  refine tk 4 ⟨some 22, .load 3 (.tmp 21), 3, "alu.go:36", #[eD 3], none⟩ (v := ?_) hHeld ?_ ?_
  rotate_left
  · (intro wz hSw; (try dsimp only at hSw); have q0 := hSw.row.cell 1 _ (A.row_1 _ _); have q1 := hSw.ins.cell 3 _ rfl; have q2 := hSw.ins.cell 6 _ rfl; have q3 := hSw.regs.cell b.toNat _ (A.cell_r s b.toNat (by omega)); go_simp; try with_reducible rfl)
  try simp only [Act.put, q0, q1, q2]
  refine tk 5 ⟨some 23, .fieldAddr 26 (.tmp 2) 0, 0, "alu.go:36", #[], none⟩ (v := ?_) hHeld ?_ ?_
  rotate_left
  · (intro wz hSw; (try dsimp only at hSw); have q0 := hSw.row.cell 1 _ (A.row_1 _ _); have q1 := hSw.ins.cell 3 _ rfl; have q2 := hSw.ins.cell 6 _ rfl; have q3 := hSw.regs.cell b.toNat _ (A.cell_r s b.toNat (by omega)); go_simp; try with_reducible rfl)
  try simp only [Act.put, q0, q1, q2]
  refine tk 6 ⟨some 24, .indexAddr 24 (.tmp 23) (.tmp 22), 0, "alu.go:36", #[eD 5, eD 4], none⟩ (v := ?_) hHeld ?_ ?_
  rotate_left
  · (intro wz hSw; (try dsimp only at hSw); have q0 := hSw.row.cell 1 _ (A.row_1 _ _); have q1 := hSw.ins.cell 3 _ rfl; have q2 := hSw.ins.cell 6 _ rfl; have q3 := hSw.regs.cell b.toNat _ (A.cell_r s b.toNat (by omega)); go_simp; try with_reducible rfl)
  try simp only [Act.put, q0, q1, q2]
  refine tk 7 ⟨some 25, .load 23 (.tmp 24), 23, "alu.go:36", #[eD 6], none⟩ (v := ?_) hHeld ?_ ?_
  rotate_left
  · (intro wz hSw; (try dsimp only at hSw); have q0 := hSw.row.cell 1 _ (A.row_1 _ _); have q1 := hSw.ins.cell 3 _ rfl; have q2 := hSw.ins.cell 6 _ rfl; have q3 := hSw.regs.cell b.toNat _ (A.cell_r s b.toNat (by omega)); go_simp; try with_reducible rfl)
  try simp only [Act.put, q0, q1, q2]
  refine tk 8 ⟨some 26, .load 26 (.tmp 2), 26, "alu.go:36", #[], none⟩ (v := ?_) hHeld ?_ ?_
  rotate_left
  · (intro wz hSw; refine exec_load_has 26 (Operand.tmp 2) ?_ _ ?_ hSw.regs Tryz.underlying26 rfl (A.info25 _) <;> rfl)
  try simp only [Act.put, q0, q1, q2]
  refine tk 9 ⟨some 27, .load 57 (.tmp 3), 57, "alu.go:36", #[], none⟩ (v := ?_) hHeld ?_ ?_
  rotate_left
  · (intro wz hSw; refine exec_load_has 57 (Operand.tmp 3) ?_ _ ?_ hSw.ins Tryz.underlying57 rfl (by kernel_rfl) <;> rfl)
  try simp only [Act.put, q0, q1, q2]
  refine tk 11 ⟨some 29, .fieldAddr 57 (.tmp 3) 6, 0, "alu.go:36", #[], none⟩ (v := ?_) hHeld ?_ ?_
  rotate_left
  · (intro wz hSw; (try dsimp only at hSw); have q0 := hSw.row.cell 1 _ (A.row_1 _ _); have q1 := hSw.ins.cell 3 _ rfl; have q2 := hSw.ins.cell 6 _ rfl; have q3 := hSw.regs.cell b.toNat _ (A.cell_r s b.toNat (by omega)); go_simp; try with_reducible rfl)
  try simp only [Act.put, q0, q1, q2]
  refine tk 12 ⟨some 30, .load 4 (.tmp 29), 4, "alu.go:36", #[eD 11], none⟩ (v := ?_) hHeld ?_ ?_
  rotate_left
  · (intro wz hSw; (try dsimp only at hSw); have q0 := hSw.row.cell 1 _ (A.row_1 _ _); have q1 := hSw.ins.cell 3 _ rfl; have q2 := hSw.ins.cell 6 _ rfl; have q3 := hSw.regs.cell b.toNat _ (A.cell_r s b.toNat (by omega)); go_simp; try with_reducible rfl)
  try simp only [Act.put, q0, q1, q2]
  refine wpAnyH_ready (rs := [10, 15]) (by kernel_rfl) (by simp) ?_
  refine AllReadyH.cons (o := ⟨some 28, .call { callee := .value (.func 87), args := #[.tmp 26, .tmp 27], argTypes := #[26, 57] }, 23, "alu.go:36", #[eD 8, eD 9], none⟩) rfl (fun K hK => ?_) (AllReadyH.cons (o := ⟨some 8, .alloc 126, 0, "alu.go:36", #[], none⟩) rfl (fun K hK => ?_) (AllReadyH.nil))
  · go_simp
    go_at_call 87
    refine (HN.out _).mono ?_
    rintro e w5 ⟨rfl, hK5⟩
    have hN := (show (A.St s #[.int .i64 k, .int .i64 op, .int .i64 a, .int .i64 b, .int .i64 c, .int .i64 i, .bool u] w2.heap.size (A.row o f) w) _ from hHeld.step hK5)
    clear hHeld
    refine hK.out _ _ hN (fun hHeld => ?_)
    clear hK K hN
    try simp only [Act.put, q0, q1, q2]
    refine tk 13 ⟨some 31, .build 129 #[(0, .tmp 20), (1, .tmp 25), (2, .tmp 28), (3, .tmp 30)], 129, "alu.go:36", #[eD 2, eD 7, eD 10, eD 12], none⟩ (v := ?_) hHeld ?_ ?_
    rotate_left
    · (intro wz hSw; refine exec_build (o := ⟨some 31, .build 129 #[(0, .tmp 20), (1, .tmp 25), (2, .tmp 28), (3, .tmp 30)], 129, "alu.go:36", #[eD 2, eD 7, eD 10, eD 12], none⟩) 129 _ rfl (A.opnd s (s.r b.toNat) n u) ?_; (go_simp; exact A.builtOp _ _ _ _))
    try simp only [Act.put, q0, q1, q2]
    refine wpAnyH_ready (rs := [14, 15]) (by kernel_rfl) (by simp) ?_
    refine AllReadyH.cons (o := ⟨some 32, .call { callee := .value (.tmp 19), args := #[.tmp 31], argTypes := #[129] }, 126, "alu.go:36", #[eD 1, eD 13, eC 10], none⟩) rfl (fun K hK => ?_) (AllReadyH.cons (o := ⟨some 8, .alloc 126, 0, "alu.go:36", #[], none⟩) rfl (fun K hK => ?_) (AllReadyH.nil))
    · refine wp_call_value (o := ⟨some 32, .call { callee := .value (.tmp 19), args := #[.tmp 31], argTypes := #[129] }, 126, "alu.go:36", #[eD 1, eD 13, eC 10], none⟩) _ _ _ rfl f ?_ HF.out #[.agg (A.opnd s (s.r b.toNat) n u)] ?_ ?_
      · rfl
      · go_simp
      refine (HW.out _).mono ?_
      rintro e w6 ⟨rfl, hK5⟩
      have hN := (show (A.St s #[.int .i64 k, .int .i64 op, .int .i64 a, .int .i64 b, .int .i64 c, .int .i64 i, .bool u] w2.heap.size (A.row o f) w) _ from hHeld.step hK5)
      clear hHeld
      refine hK.out _ _ hN (fun hHeld => ?_)
      clear hK K hN
      try simp only [Act.put, q0, q1, q2]
      refine wpAnyH_ready (rs := [15]) (by kernel_rfl) (by simp) ?_
      refine AllReadyH.cons (o := ⟨some 8, .alloc 126, 0, "alu.go:36", #[], none⟩) rfl (fun K hK => ?_) (AllReadyH.nil)
      have hl1 := hHeld.res.lt
      have hl2 := hHeld.row.lt
      go_simp
      have hA := Has.new #[.int .u32 0, .int .u32 0, .int .u32 0, .int .u32 0, .int .u32 0, .int .u32 0, .int .u32 0, .int .u32 0, .int .u32 0, .int .u32 0, .int .u32 0, .int .u32 0, .int .u32 0, .int .u32 0, .int .u32 0, .int .u32 0, .int .u32 0, .int .u32 0, .bool false, .bool false, .bool false, .bool false, .int .i64 0] 126 w6
      have hN := (show (A.St s #[.int .i64 k, .int .i64 op, .int .i64 a, .int .i64 b, .int .i64 c, .int .i64 i, .bool u] w2.heap.size (A.row o f) w) _ from hHeld.step ((Kept.refl _).alloc #[.int .u32 0, .int .u32 0, .int .u32 0, .int .u32 0, .int .u32 0, .int .u32 0, .int .u32 0, .int .u32 0, .int .u32 0, .int .u32 0, .int .u32 0, .int .u32 0, .int .u32 0, .int .u32 0, .int .u32 0, .int .u32 0, .int .u32 0, .int .u32 0, .bool false, .bool false, .bool false, .bool false, .int .i64 0] 126))
      clear hHeld
      refine hK.out _ _ hN (fun hHeld => ?_)
      clear hK K hN
      try simp only [Act.put, q0, q1, q2]
      refine wpAnyH_ready (rs := [16]) (by kernel_rfl) (by simp) ?_
      refine AllReadyH.cons (o := ⟨none, .store 126 (.tmp 8) (.tmp 32), 0, "alu.go:36", #[eD 15, eD 14, eC 14, eP 0, eP 1, eP 2, eP 3, eP 4, eP 5, eP 6, eP 7, eP 8, eP 9, eP 10, eP 11, eP 12, eP 13, eP 14, eP 15], none⟩) rfl (fun K hK => ?_) (AllReadyH.nil)
      refine wp_store_row (o := ⟨none, .store 126 (.tmp 8) (.tmp 32), 0, "alu.go:36", #[eD 15, eD 14, eC 14, eP 0, eP 1, eP 2, eP 3, eP 4, eP 5, eP 6, eP 7, eP 8, eP 9, eP 10, eP 11, eP 12, eP 13, eP 14, eP 15], none⟩) 126 _ _ rfl _ (A.outc x s' 5) ?_ ?_ 126 _ hA (A.infoOut _ _ _) (by kernel_rfl) (A.one_outc _ _ _) ?_
      · rfl
      · rfl
      replace hA := hA.row (A.outc x s' 5)
      have hN := (show (A.St s #[.int .i64 k, .int .i64 op, .int .i64 a, .int .i64 b, .int .i64 c, .int .i64 i, .bool u] w2.heap.size (A.row o f) w) _ from hHeld.rowNew (by omega) (by omega) (A.outc x s' 5))
      clear hHeld
      refine hK.out _ _ hN (fun hHeld => ?_)
      clear hK K hN
      try simp only [Act.put, q0, q1, q2]
      refine wpAnyH_done (by kernel_rfl) ?_ _
      generalize World.setRow _ _ _ = wF at hHeld hA
      have q2 := hA.cell 22 _ (A.outc_t _ _ _)
      have H6 := Lib.hid (show Kept w wF ∧ Has w.heap.size (A.cells s) 26 wF ∧ Has _ (A.outc x s' 5) 126 wF ∧ HasN (w.heap.size + 2) 21 26 wF from ⟨hHeld.kept, hHeld.regs, hA, ⟨_, rfl, hHeld.res⟩⟩)
      clear hHeld hA hS
      go_upto_region 6 with (fail)
      clear q2
      refine wp_region_held_drew (S := fun w' => Kept w w' ∧ Has w.heap.size (A.cells s) 26 w' ∧ Has w6.heap.size (A.outc x s' 5) 126 w' ∧ HasN (w.heap.size + 2) 21 26 w') (by kernel_rfl) ?_ (fun hHeld => ?_)
      · exact ⟨H6.out.1.drew, H6.out.2.1.drew, H6.out.2.2.1.drew, H6.out.2.2.2⟩
      refine tk 0 ⟨some 36, .load 26 (.tmp 2), 26, "alu.go:38", #[], none⟩ (v := ?_) hHeld ?_ ?_
      rotate_left
      · (intro wz hSw; refine exec_load_has 26 (Operand.tmp 2) ?_ _ ?_ hSw.2.1 Tryz.underlying26 rfl (A.info25 _) <;> rfl)
      try simp only [Act.put, q0, q1, q2]
      refine tk 1 ⟨some 37, .fieldAddr 126 (.tmp 8) 2, 0, "alu.go:38", #[eL 3], none⟩ (v := ?_) hHeld ?_ ?_
      rotate_left
      · (intro wz hSw; (try dsimp only at hSw); have q0 := hSw.2.2.1.cell 22 _ (A.outc_t _ _ _); go_simp; try with_reducible rfl)
      try simp only [Act.put, q0, q1, q2]
      refine tk 2 ⟨some 38, .load 3 (.tmp 37), 3, "alu.go:38", #[eD 1, eL 3], none⟩ (v := ?_) hHeld ?_ ?_
      rotate_left
      · (intro wz hSw; (try dsimp only at hSw); have q0 := hSw.2.2.1.cell 22 _ (A.outc_t _ _ _); go_simp; try with_reducible rfl)
      try simp only [Act.put, q0, q1, q2]
      refine wpAnyH_ready (rs := [3]) (by kernel_rfl) (by simp) ?_
      refine AllReadyH.cons (o := ⟨none, .store 26 (.tmp 4) (.tmp 36), 0, "alu.go:38", #[eD 0, eP 0, eT 1, eT 2], none⟩) rfl (fun K hK => ?_) (AllReadyH.nil)
      obtain ⟨old, hold, hR⟩ := hHeld.2.2.2
      refine wp_store_row (o := ⟨none, .store 26 (.tmp 4) (.tmp 36), 0, "alu.go:38", #[eD 0, eP 0, eT 1, eT 2], none⟩) 26 _ _ rfl _ (A.cells s) ?_ ?_ 26 old hR (A.info25 _) hold (A.one_cells _) ?_
      · rfl
      · rfl
      replace hR := Has.row hR (A.cells s)
      have hN := (show (fun w' => Kept w w' ∧ Has w.heap.size (A.cells s) 26 w' ∧ Has w6.heap.size (A.outc x s' 5) 126 w' ∧ HasN (w.heap.size + 2) 21 26 w') _ from ⟨hHeld.1.row (by omega) _, hHeld.2.1.rowOther (by omega) _, hHeld.2.2.1.rowOther (by omega) _, ⟨A.cells s, A.size_cells _, hR⟩⟩)
      clear hHeld
      refine hK.out _ _ hN (fun hHeld => ?_)
      clear hK K hN
      try simp only [Act.put, q0, q1, q2]
      refine tk 4 ⟨some 5, .assign (.tmp 38), 3, "alu.go:38", #[eD 2, eC 3, eP 0, eP 1, eP 2, eP 3], none⟩ (v := ?_) hHeld ?_ ?_
      rotate_left
      · (intro wz hSw; (try dsimp only at hSw); have q0 := hSw.2.2.1.cell 22 _ (A.outc_t _ _ _); go_simp; try with_reducible rfl)
      try simp only [Act.put, q0, q1, q2]
      refine wpAnyH_done (by kernel_rfl) ?_ _
      generalize World.setRow _ _ _ = wF at hHeld hR
      replace hR := Lib.hid hR
      go_wp2_with fail
      exact bodyPost_ret (results_has2 rfl (w.heap.size + 2) rfl hR.out Tryz.underlying26 rfl (A.info25 _)) rfl ⟨rfl, hHeld.1⟩
    · have hl1 := hHeld.res.lt
      have hl2 := hHeld.row.lt
      go_simp
      have hA := Has.new #[.int .u32 0, .int .u32 0, .int .u32 0, .int .u32 0, .int .u32 0, .int .u32 0, .int .u32 0, .int .u32 0, .int .u32 0, .int .u32 0, .int .u32 0, .int .u32 0, .int .u32 0, .int .u32 0, .int .u32 0, .int .u32 0, .int .u32 0, .int .u32 0, .bool false, .bool false, .bool false, .bool false, .int .i64 0] 126 w5
      have hN := (show (A.St s #[.int .i64 k, .int .i64 op, .int .i64 a, .int .i64 b, .int .i64 c, .int .i64 i, .bool u] w2.heap.size (A.row o f) w) _ from hHeld.step ((Kept.refl _).alloc #[.int .u32 0, .int .u32 0, .int .u32 0, .int .u32 0, .int .u32 0, .int .u32 0, .int .u32 0, .int .u32 0, .int .u32 0, .int .u32 0, .int .u32 0, .int .u32 0, .int .u32 0, .int .u32 0, .int .u32 0, .int .u32 0, .int .u32 0, .int .u32 0, .bool false, .bool false, .bool false, .bool false, .int .i64 0] 126))
      clear hHeld
      refine hK.out _ _ hN (fun hHeld => ?_)
      clear hK K hN
      try simp only [Act.put, q0, q1, q2]
      refine wpAnyH_ready (rs := [14]) (by kernel_rfl) (by simp) ?_
      refine AllReadyH.cons (o := ⟨some 32, .call { callee := .value (.tmp 19), args := #[.tmp 31], argTypes := #[129] }, 126, "alu.go:36", #[eD 1, eD 13, eC 10], none⟩) rfl (fun K hK => ?_) (AllReadyH.nil)
      refine wp_call_value (o := ⟨some 32, .call { callee := .value (.tmp 19), args := #[.tmp 31], argTypes := #[129] }, 126, "alu.go:36", #[eD 1, eD 13, eC 10], none⟩) _ _ _ rfl f ?_ HF.out #[.agg (A.opnd s (s.r b.toNat) n u)] ?_ ?_
      · rfl
      · go_simp
      refine (HW.out _).mono ?_
      rintro e w6 ⟨rfl, hK5⟩
      replace hA := hA.kept hK5
      have hN := (show (A.St s #[.int .i64 k, .int .i64 op, .int .i64 a, .int .i64 b, .int .i64 c, .int .i64 i, .bool u] w2.heap.size (A.row o f) w) _ from hHeld.step hK5)
      clear hHeld
      refine hK.out _ _ hN (fun hHeld => ?_)
      clear hK K hN
      try simp only [Act.put, q0, q1, q2]
      refine wpAnyH_ready (rs := [16]) (by kernel_rfl) (by simp) ?_
      refine AllReadyH.cons (o := ⟨none, .store 126 (.tmp 8) (.tmp 32), 0, "alu.go:36", #[eD 15, eD 14, eC 14, eP 0, eP 1, eP 2, eP 3, eP 4, eP 5, eP 6, eP 7, eP 8, eP 9, eP 10, eP 11, eP 12, eP 13, eP 14, eP 15], none⟩) rfl (fun K hK => ?_) (AllReadyH.nil)
      refine wp_store_row (o := ⟨none, .store 126 (.tmp 8) (.tmp 32), 0, "alu.go:36", #[eD 15, eD 14, eC 14, eP 0, eP 1, eP 2, eP 3, eP 4, eP 5, eP 6, eP 7, eP 8, eP 9, eP 10, eP 11, eP 12, eP 13, eP 14, eP 15], none⟩) 126 _ _ rfl _ (A.outc x s' 5) ?_ ?_ 126 _ hA (A.infoOut _ _ _) (by kernel_rfl) (A.one_outc _ _ _) ?_
      · rfl
      · rfl
      replace hA := hA.row (A.outc x s' 5)
      have hN := (show (A.St s #[.int .i64 k, .int .i64 op, .int .i64 a, .int .i64 b, .int .i64 c, .int .i64 i, .bool u] w2.heap.size (A.row o f) w) _ from hHeld.rowNew (by omega) (by omega) (A.outc x s' 5))
      clear hHeld
      refine hK.out _ _ hN (fun hHeld => ?_)
      clear hK K hN
      try simp only [Act.put, q0, q1, q2]
      refine wpAnyH_done (by kernel_rfl) ?_ _
      generalize World.setRow _ _ _ = wF at hHeld hA
      have q2 := hA.cell 22 _ (A.outc_t _ _ _)
      have H6 := Lib.hid (show Kept w wF ∧ Has w.heap.size (A.cells s) 26 wF ∧ Has _ (A.outc x s' 5) 126 wF ∧ HasN (w.heap.size + 2) 21 26 wF from ⟨hHeld.kept, hHeld.regs, hA, ⟨_, rfl, hHeld.res⟩⟩)
      clear hHeld hA hS
      go_upto_region 6 with (fail)
      clear q2
      refine wp_region_held_drew (S := fun w' => Kept w w' ∧ Has w.heap.size (A.cells s) 26 w' ∧ Has w5.heap.size (A.outc x s' 5) 126 w' ∧ HasN (w.heap.size + 2) 21 26 w') (by kernel_rfl) ?_ (fun hHeld => ?_)
      · exact ⟨H6.out.1.drew, H6.out.2.1.drew, H6.out.2.2.1.drew, H6.out.2.2.2⟩
      refine tk 0 ⟨some 36, .load 26 (.tmp 2), 26, "alu.go:38", #[], none⟩ (v := ?_) hHeld ?_ ?_
      rotate_left
      · (intro wz hSw; refine exec_load_has 26 (Operand.tmp 2) ?_ _ ?_ hSw.2.1 Tryz.underlying26 rfl (A.info25 _) <;> rfl)
      try simp only [Act.put, q0, q1, q2]
      refine tk 1 ⟨some 37, .fieldAddr 126 (.tmp 8) 2, 0, "alu.go:38", #[eL 3], none⟩ (v := ?_) hHeld ?_ ?_
      rotate_left
      · (intro wz hSw; (try dsimp only at hSw); have q0 := hSw.2.2.1.cell 22 _ (A.outc_t _ _ _); go_simp; try with_reducible rfl)
      try simp only [Act.put, q0, q1, q2]
      refine tk 2 ⟨some 38, .load 3 (.tmp 37), 3, "alu.go:38", #[eD 1, eL 3], none⟩ (v := ?_) hHeld ?_ ?_
      rotate_left
      · (intro wz hSw; (try dsimp only at hSw); have q0 := hSw.2.2.1.cell 22 _ (A.outc_t _ _ _); go_simp; try with_reducible rfl)
      try simp only [Act.put, q0, q1, q2]
      refine wpAnyH_ready (rs := [3]) (by kernel_rfl) (by simp) ?_
      refine AllReadyH.cons (o := ⟨none, .store 26 (.tmp 4) (.tmp 36), 0, "alu.go:38", #[eD 0, eP 0, eT 1, eT 2], none⟩) rfl (fun K hK => ?_) (AllReadyH.nil)
      obtain ⟨old, hold, hR⟩ := hHeld.2.2.2
      refine wp_store_row (o := ⟨none, .store 26 (.tmp 4) (.tmp 36), 0, "alu.go:38", #[eD 0, eP 0, eT 1, eT 2], none⟩) 26 _ _ rfl _ (A.cells s) ?_ ?_ 26 old hR (A.info25 _) hold (A.one_cells _) ?_
      · rfl
      · rfl
      replace hR := Has.row hR (A.cells s)
      have hN := (show (fun w' => Kept w w' ∧ Has w.heap.size (A.cells s) 26 w' ∧ Has w5.heap.size (A.outc x s' 5) 126 w' ∧ HasN (w.heap.size + 2) 21 26 w') _ from ⟨hHeld.1.row (by omega) _, hHeld.2.1.rowOther (by omega) _, hHeld.2.2.1.rowOther (by omega) _, ⟨A.cells s, A.size_cells _, hR⟩⟩)
      clear hHeld
      refine hK.out _ _ hN (fun hHeld => ?_)
      clear hK K hN
      try simp only [Act.put, q0, q1, q2]
      refine tk 4 ⟨some 5, .assign (.tmp 38), 3, "alu.go:38", #[eD 2, eC 3, eP 0, eP 1, eP 2, eP 3], none⟩ (v := ?_) hHeld ?_ ?_
      rotate_left
      · (intro wz hSw; (try dsimp only at hSw); have q0 := hSw.2.2.1.cell 22 _ (A.outc_t _ _ _); go_simp; try with_reducible rfl)
      try simp only [Act.put, q0, q1, q2]
      refine wpAnyH_done (by kernel_rfl) ?_ _
      generalize World.setRow _ _ _ = wF at hHeld hR
      replace hR := Lib.hid hR
      go_wp2_with fail
      exact bodyPost_ret (results_has2 rfl (w.heap.size + 2) rfl hR.out Tryz.underlying26 rfl (A.info25 _)) rfl ⟨rfl, hHeld.1⟩
  · have hl1 := hHeld.res.lt
    have hl2 := hHeld.row.lt
    go_simp
    have hA := Has.new #[.int .u32 0, .int .u32 0, .int .u32 0, .int .u32 0, .int .u32 0, .int .u32 0, .int .u32 0, .int .u32 0, .int .u32 0, .int .u32 0, .int .u32 0, .int .u32 0, .int .u32 0, .int .u32 0, .int .u32 0, .int .u32 0, .int .u32 0, .int .u32 0, .bool false, .bool false, .bool false, .bool false, .int .i64 0] 126 ((w2.alloc (.cells (A.row o f) 122)).drew)
    have e8 : ((w2.alloc (.cells (A.row o f) 122)).drew).heap.size = w2.heap.size + 1 := by show (w2.heap.push _).size = _; simp
    rw [e8] at hA hl1 hl2
    clear e8
    have hN := (show (A.St s #[.int .i64 k, .int .i64 op, .int .i64 a, .int .i64 b, .int .i64 c, .int .i64 i, .bool u] w2.heap.size (A.row o f) w) _ from hHeld.step ((Kept.refl _).alloc #[.int .u32 0, .int .u32 0, .int .u32 0, .int .u32 0, .int .u32 0, .int .u32 0, .int .u32 0, .int .u32 0, .int .u32 0, .int .u32 0, .int .u32 0, .int .u32 0, .int .u32 0, .int .u32 0, .int .u32 0, .int .u32 0, .int .u32 0, .int .u32 0, .bool false, .bool false, .bool false, .bool false, .int .i64 0] 126))
    clear hHeld
    refine hK.out _ _ hN (fun hHeld => ?_)
    clear hK K hN
    try simp only [Act.put, q0, q1, q2]
    refine wpAnyH_ready (rs := [10]) (by kernel_rfl) (by simp) ?_
    refine AllReadyH.cons (o := ⟨some 28, .call { callee := .value (.func 87), args := #[.tmp 26, .tmp 27], argTypes := #[26, 57] }, 23, "alu.go:36", #[eD 8, eD 9], none⟩) rfl (fun K hK => ?_) (AllReadyH.nil)
    go_simp
    go_at_call 87
    refine (HN.out _).mono ?_
    rintro e w5 ⟨rfl, hK5⟩
    replace hA := hA.kept hK5
    have hN := (show (A.St s #[.int .i64 k, .int .i64 op, .int .i64 a, .int .i64 b, .int .i64 c, .int .i64 i, .bool u] w2.heap.size (A.row o f) w) _ from hHeld.step hK5)
    clear hHeld
    refine hK.out _ _ hN (fun hHeld => ?_)
    clear hK K hN
    try simp only [Act.put, q0, q1, q2]
    refine tk 13 ⟨some 31, .build 129 #[(0, .tmp 20), (1, .tmp 25), (2, .tmp 28), (3, .tmp 30)], 129, "alu.go:36", #[eD 2, eD 7, eD 10, eD 12], none⟩ (v := ?_) hHeld ?_ ?_
    rotate_left
    · (intro wz hSw; refine exec_build (o := ⟨some 31, .build 129 #[(0, .tmp 20), (1, .tmp 25), (2, .tmp 28), (3, .tmp 30)], 129, "alu.go:36", #[eD 2, eD 7, eD 10, eD 12], none⟩) 129 _ rfl (A.opnd s (s.r b.toNat) n u) ?_; (go_simp; exact A.builtOp _ _ _ _))
    try simp only [Act.put, q0, q1, q2]
    refine wpAnyH_ready (rs := [14]) (by kernel_rfl) (by simp) ?_
    refine AllReadyH.cons (o := ⟨some 32, .call { callee := .value (.tmp 19), args := #[.tmp 31], argTypes := #[129] }, 126, "alu.go:36", #[eD 1, eD 13, eC 10], none⟩) rfl (fun K hK => ?_) (AllReadyH.nil)
    refine wp_call_value (o := ⟨some 32, .call { callee := .value (.tmp 19), args := #[.tmp 31], argTypes := #[129] }, 126, "alu.go:36", #[eD 1, eD 13, eC 10], none⟩) _ _ _ rfl f ?_ HF.out #[.agg (A.opnd s (s.r b.toNat) n u)] ?_ ?_
    · rfl
    · go_simp
    refine (HW.out _).mono ?_
    rintro e w6 ⟨rfl, hK5⟩
    replace hA := hA.kept hK5
    have hN := (show (A.St s #[.int .i64 k, .int .i64 op, .int .i64 a, .int .i64 b, .int .i64 c, .int .i64 i, .bool u] w2.heap.size (A.row o f) w) _ from hHeld.step hK5)
    clear hHeld
    refine hK.out _ _ hN (fun hHeld => ?_)
    clear hK K hN
    try simp only [Act.put, q0, q1, q2]
    refine wpAnyH_ready (rs := [16]) (by kernel_rfl) (by simp) ?_
    refine AllReadyH.cons (o := ⟨none, .store 126 (.tmp 8) (.tmp 32), 0, "alu.go:36", #[eD 15, eD 14, eC 14, eP 0, eP 1, eP 2, eP 3, eP 4, eP 5, eP 6, eP 7, eP 8, eP 9, eP 10, eP 11, eP 12, eP 13, eP 14, eP 15], none⟩) rfl (fun K hK => ?_) (AllReadyH.nil)
    refine wp_store_row (o := ⟨none, .store 126 (.tmp 8) (.tmp 32), 0, "alu.go:36", #[eD 15, eD 14, eC 14, eP 0, eP 1, eP 2, eP 3, eP 4, eP 5, eP 6, eP 7, eP 8, eP 9, eP 10, eP 11, eP 12, eP 13, eP 14, eP 15], none⟩) 126 _ _ rfl _ (A.outc x s' 5) ?_ ?_ 126 _ hA (A.infoOut _ _ _) (by kernel_rfl) (A.one_outc _ _ _) ?_
    · rfl
    · rfl
    replace hA := hA.row (A.outc x s' 5)
    have hN := (show (A.St s #[.int .i64 k, .int .i64 op, .int .i64 a, .int .i64 b, .int .i64 c, .int .i64 i, .bool u] w2.heap.size (A.row o f) w) _ from hHeld.rowNew (by omega) (by omega) (A.outc x s' 5))
    clear hHeld
    refine hK.out _ _ hN (fun hHeld => ?_)
    clear hK K hN
    try simp only [Act.put, q0, q1, q2]
    refine wpAnyH_done (by kernel_rfl) ?_ _
    generalize World.setRow _ _ _ = wF at hHeld hA
    have q2 := hA.cell 22 _ (A.outc_t _ _ _)
    have H6 := Lib.hid (show Kept w wF ∧ Has w.heap.size (A.cells s) 26 wF ∧ Has _ (A.outc x s' 5) 126 wF ∧ HasN (w.heap.size + 2) 21 26 wF from ⟨hHeld.kept, hHeld.regs, hA, ⟨_, rfl, hHeld.res⟩⟩)
    clear hHeld hA hS
    go_upto_region 6 with (fail)
    clear q2
    refine wp_region_held_drew (S := fun w' => Kept w w' ∧ Has w.heap.size (A.cells s) 26 w' ∧ Has (w2.heap.size + 1) (A.outc x s' 5) 126 w' ∧ HasN (w.heap.size + 2) 21 26 w') (by kernel_rfl) ?_ (fun hHeld => ?_)
    · exact ⟨H6.out.1.drew, H6.out.2.1.drew, H6.out.2.2.1.drew, H6.out.2.2.2⟩
    refine tk 0 ⟨some 36, .load 26 (.tmp 2), 26, "alu.go:38", #[], none⟩ (v := ?_) hHeld ?_ ?_
    rotate_left
    · (intro wz hSw; refine exec_load_has 26 (Operand.tmp 2) ?_ _ ?_ hSw.2.1 Tryz.underlying26 rfl (A.info25 _) <;> rfl)
    try simp only [Act.put, q0, q1, q2]
    refine tk 1 ⟨some 37, .fieldAddr 126 (.tmp 8) 2, 0, "alu.go:38", #[eL 3], none⟩ (v := ?_) hHeld ?_ ?_
    rotate_left
    · (intro wz hSw; (try dsimp only at hSw); have q0 := hSw.2.2.1.cell 22 _ (A.outc_t _ _ _); go_simp; try with_reducible rfl)
    try simp only [Act.put, q0, q1, q2]
    refine tk 2 ⟨some 38, .load 3 (.tmp 37), 3, "alu.go:38", #[eD 1, eL 3], none⟩ (v := ?_) hHeld ?_ ?_
    rotate_left
    · (intro wz hSw; (try dsimp only at hSw); have q0 := hSw.2.2.1.cell 22 _ (A.outc_t _ _ _); go_simp; try with_reducible rfl)
    try simp only [Act.put, q0, q1, q2]
    refine wpAnyH_ready (rs := [3]) (by kernel_rfl) (by simp) ?_
    refine AllReadyH.cons (o := ⟨none, .store 26 (.tmp 4) (.tmp 36), 0, "alu.go:38", #[eD 0, eP 0, eT 1, eT 2], none⟩) rfl (fun K hK => ?_) (AllReadyH.nil)
    obtain ⟨old, hold, hR⟩ := hHeld.2.2.2
    refine wp_store_row (o := ⟨none, .store 26 (.tmp 4) (.tmp 36), 0, "alu.go:38", #[eD 0, eP 0, eT 1, eT 2], none⟩) 26 _ _ rfl _ (A.cells s) ?_ ?_ 26 old hR (A.info25 _) hold (A.one_cells _) ?_
    · rfl
    · rfl
    replace hR := Has.row hR (A.cells s)
    have hN := (show (fun w' => Kept w w' ∧ Has w.heap.size (A.cells s) 26 w' ∧ Has (w2.heap.size + 1) (A.outc x s' 5) 126 w' ∧ HasN (w.heap.size + 2) 21 26 w') _ from ⟨hHeld.1.row (by omega) _, hHeld.2.1.rowOther (by omega) _, hHeld.2.2.1.rowOther (by omega) _, ⟨A.cells s, A.size_cells _, hR⟩⟩)
    clear hHeld
    refine hK.out _ _ hN (fun hHeld => ?_)
    clear hK K hN
    try simp only [Act.put, q0, q1, q2]
    refine tk 4 ⟨some 5, .assign (.tmp 38), 3, "alu.go:38", #[eD 2, eC 3, eP 0, eP 1, eP 2, eP 3], none⟩ (v := ?_) hHeld ?_ ?_
    rotate_left
    · (intro wz hSw; (try dsimp only at hSw); have q0 := hSw.2.2.1.cell 22 _ (A.outc_t _ _ _); go_simp; try with_reducible rfl)
    try simp only [Act.put, q0, q1, q2]
    refine wpAnyH_done (by kernel_rfl) ?_ _
    generalize World.setRow _ _ _ = wF at hHeld hR
    replace hR := Lib.hid hR
    go_wp2_with fail
    exact bodyPost_ret (results_has2 rfl (w.heap.size + 2) rfl hR.out Tryz.underlying26 rfl (A.info25 _)) rfl ⟨rfl, hHeld.1⟩
end Go.Proofs.YtlmddkciamdldaaGreat
