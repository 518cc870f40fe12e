/-
  The contracts of the function literals and of the loop of package field: which variables they turn.
-/
import Derived.Test.YtliofphhoaopkaaRows
import Derived.Test.YtliofphhoaopkaaKit0
import Derived.Test.YtliofphhoaopkaaField0
import Derived.WalkKit
import Derived.WalkSpells
import Derived.WalkLawsBesides
import Derived.Lib.Hide
namespace Go.Proofs.Ytliofphhoaopkaa
open Go.RowKit
set_option linter.unusedVariables false
set_option linter.unusedSimpArgs false
/-- two variables of a word each, that a function literal has taken -/
structure Two (Bp Bw : Nat) (p x : Int) (w : World) : Prop where
  hp : w.heap[Bp]? = some (.cells #[.int .u32 p] 24 (0, 0))
  hx : w.heap[Bw]? = some (.cells #[.int .u32 x] 24 (0, 0))
  ne : Bw ≠ Bp
theorem Two.store {Bp Bw : Nat} {p x : Int} {w : World} (h : Two Bp Bw p x w) (q : Int) : Two Bp Bw q x (w.setCell ⟨Bp, 0, none⟩ (.int .u32 q)) :=
  ⟨one_setCell h.hp, heap_setCell_keep h.hx h.ne _, h.ne⟩
theorem Two.drew {Bp Bw : Nat} {p x : Int} {w : World} (h : Two Bp Bw p x w) : Two Bp Bw p x w.drew := ⟨h.hp, h.hx, h.ne⟩
set_option maxHeartbeats 400000 in
theorem get1_any (i pl p x : Int) (B Bp Bw : Nat) (hi : 0 ≤ i) (hi' : i < 32) (hp0 : 0 ≤ pl) (hB : B ≤ Bp) (w : World) (h : Two Bp Bw p x w) :
    Calls Try.prog 32 #[.int .i64 i, .int .u64 pl, .pointer (some ⟨Bp, 0, none⟩), .pointer (some ⟨Bw, 0, none⟩)] w fun e w' =>
      e = .returned (.tuple #[]) ∧ Two Bp Bw (F.gval p x i pl) x w' ∧ KeptB B w w' := by
  have c1 := cell_of_one h.hp
  have c2 := cell_of_one h.hx
  have f1 := free_of_one h.hp
  go_enter Try.func32, Try.ntmps32
  go_region
  go_end0
  exact ⟨rfl, (h.store _).drew, ((KeptB.refl B w).setCell hB _).drew⟩
set_option maxHeartbeats 400000 in
theorem set1_any (i pl p x : Int) (B Bp Bw : Nat) (hi : 0 ≤ i) (hi' : i < 32) (hp0 : 0 ≤ pl) (hB : B ≤ Bp) (w : World) (h : Two Bp Bw p x w) :
    Calls Try.prog 45 #[.int .i64 i, .int .u64 pl, .pointer (some ⟨Bp, 0, none⟩), .pointer (some ⟨Bw, 0, none⟩)] w fun e w' =>
      e = .returned (.tuple #[]) ∧ Two Bp Bw (F.sval p x i pl) x w' ∧ KeptB B w w' := by
  have c1 := cell_of_one h.hp
  have c2 := cell_of_one h.hx
  have f1 := free_of_one h.hp
  go_enter Try.func45, Try.ntmps45
  go_region
  go_end0
  exact ⟨rfl, (h.store _).drew, ((KeptB.refl B w).setCell hB _).drew⟩
set_option maxHeartbeats 1000000 in
theorem eachGet_any (a n x : Int) (B Bp Bw : Nat) (ha0 : -9223372036854775808 ≤ a) (ha1 : a ≤ 9223372036854775807) (hn1 : n ≤ 9223372036854775807) (hx0 : 0 ≤ x) (hx1 : x < 4294967296) (hB : B ≤ Bp) (w : World) (h : Two Bp Bw 0 x w) :
    Calls Try.prog 31 #[.int .i64 a, .int .i64 n, .func (.func 32) #[] #[.pointer (some ⟨Bp, 0, none⟩), .pointer (some ⟨Bw, 0, none⟩)]] w fun e w' =>
      e = .returned (.tuple #[]) ∧ Two Bp Bw (F.get x a n) x w' ∧ KeptB B w w' := by
  have hmf : ∀ (fn : Fn) (first cap : Array Value) (w : World), (Instr.makeFunc fn first cap).run Try.prog w = .ok (.func fn first cap) w := fun _ _ _ _ => rfl
  by_cases hn : n < 1
  · have H0 := Lib.hid (show Two Bp Bw (F.get x a n) x w from by rw [F.get, F.get_end x.toNat a n 0 32 (by omega) (by omega), F.get_start x.toNat a n 0 (by omega)]; exact h)
    go_enter Try.func31, Try.ntmps31
    go_wp2
    (try simp only [Exit.inBlock, Exit.then]); refine bodyPost_ret (results_none rfl _ _ _) rfl ?_
    exact ⟨rfl, H0.out, KeptB.refl _ _⟩
  · have hn' : 1 ≤ n := by omega
    rcases (show a < 0 ∨ 0 ≤ a by omega) with hneg | hneg
    · have H0 := Lib.hid (show Two Bp Bw (F.getP x.toNat a n 0 : Nat) x w from by rw [F.get_start x.toNat a n 0 (by omega)]; exact h)
      clear h hn
      go_enter Try.func31, Try.ntmps31
      go_wp2_with fail
      go_loopw [6] (fun i wr => ∃ k : Int, 0 ≤ k ∧ a ≤ k ∧ (k ≤ 32 ∨ k ≤ a) ∧ i = .int .i64 k ∧ Two Bp Bw (F.getP x.toNat a n k : Nat) x wr ∧ KeptB B w wr) (fun i _ => (32 - intOf i).toNat)
      case atStart => exact ⟨_, by omega, by omega, by omega, rfl, H0.out, KeptB.refl _ _⟩
      case round =>
        obtain ⟨k, hk0, hka, hk1, rfl, hT, hK⟩ := hrel
        clear H0
        by_cases hlt : k < 32
        · by_cases hin : k - a < n
          · have Hs := Lib.hid (F.get_stepI x a n k hx0 hx1 hk0 hlt hka hin)
            (try have hpl := F.place_neg k a hneg ha0 hk0 hlt)
            go_wp2_with fail
            refine (get1_any k (k - a) _ x B Bp Bw hk0 hlt (by omega) hB _ hT).mono ?_
            rintro e w2 ⟨rfl, hT2, hK2⟩
            rw [Hs.out] at hT2
            (try clear hpl)
            go_wp2_with fail
            go_roundw
            case rel => exact ⟨k + 1, by omega, by omega, by omega, rfl, hT2, hK.trans hK2⟩
            case measure => simp [intOf]; omega
          · have He := Lib.hid (show F.get x a n = (F.getP x.toNat a n k : Nat) from by rw [F.get, F.get_end x.toNat a n k 32 (by omega) (by omega)])
            (try have hpl := F.place_neg k a hneg ha0 hk0 hlt)
            go_wp2_with fail
            (try simp only [Exit.inBlock, Exit.then]); refine bodyPost_ret (results_none rfl _ _ _) rfl ?_
            exact ⟨rfl, by rw [He.out]; exact hT, hK⟩
        · have He := Lib.hid (show F.get x a n = (F.getP x.toNat a n k : Nat) from by rw [F.get]; rcases (show k = 32 ∨ k ≤ a by omega) with e | e; (rw [e]); (rw [F.get_end x.toNat a n 32 k (by omega) (by omega)]))
          go_wp2_with fail
          go_end0
          exact ⟨rfl, by rw [He.out]; exact hT, hK⟩
    · have H0 := Lib.hid (show Two Bp Bw (F.getP x.toNat a n a : Nat) x w from by rw [F.get_start x.toNat a n a (by omega)]; exact h)
      clear h hn
      go_enter Try.func31, Try.ntmps31
      go_wp2_with fail
      go_loopw [6] (fun i wr => ∃ k : Int, 0 ≤ k ∧ a ≤ k ∧ (k ≤ 32 ∨ k ≤ a) ∧ i = .int .i64 k ∧ Two Bp Bw (F.getP x.toNat a n k : Nat) x wr ∧ KeptB B w wr) (fun i _ => (32 - intOf i).toNat)
      case atStart => exact ⟨_, by omega, by omega, by omega, rfl, H0.out, KeptB.refl _ _⟩
      case round =>
        obtain ⟨k, hk0, hka, hk1, rfl, hT, hK⟩ := hrel
        clear H0
        by_cases hlt : k < 32
        · by_cases hin : k - a < n
          · have Hs := Lib.hid (F.get_stepI x a n k hx0 hx1 hk0 hlt hka hin)
            (try have hpl := F.place_neg k a hneg ha0 hk0 hlt)
            go_wp2_with fail
            refine (get1_any k (k - a) _ x B Bp Bw hk0 hlt (by omega) hB _ hT).mono ?_
            rintro e w2 ⟨rfl, hT2, hK2⟩
            rw [Hs.out] at hT2
            (try clear hpl)
            go_wp2_with fail
            go_roundw
            case rel => exact ⟨k + 1, by omega, by omega, by omega, rfl, hT2, hK.trans hK2⟩
            case measure => simp [intOf]; omega
          · have He := Lib.hid (show F.get x a n = (F.getP x.toNat a n k : Nat) from by rw [F.get, F.get_end x.toNat a n k 32 (by omega) (by omega)])
            (try have hpl := F.place_neg k a hneg ha0 hk0 hlt)
            go_wp2_with fail
            (try simp only [Exit.inBlock, Exit.then]); refine bodyPost_ret (results_none rfl _ _ _) rfl ?_
            exact ⟨rfl, by rw [He.out]; exact hT, hK⟩
        · have He := Lib.hid (show F.get x a n = (F.getP x.toNat a n k : Nat) from by rw [F.get]; rcases (show k = 32 ∨ k ≤ a by omega) with e | e; (rw [e]); (rw [F.get_end x.toNat a n 32 k (by omega) (by omega)]))
          go_wp2_with fail
          go_end0
          exact ⟨rfl, by rw [He.out]; exact hT, hK⟩
set_option maxHeartbeats 1000000 in
theorem eachSet_any (a n y x : Int) (B Bp Bw : Nat) (ha0 : -9223372036854775808 ≤ a) (ha1 : a ≤ 9223372036854775807) (hn1 : n ≤ 9223372036854775807) (hy0 : 0 ≤ y) (hy1 : y < 4294967296) (hx0 : 0 ≤ x) (hx1 : x < 4294967296) (hB : B ≤ Bp) (w : World) (h : Two Bp Bw y x w) :
    Calls Try.prog 31 #[.int .i64 a, .int .i64 n, .func (.func 45) #[] #[.pointer (some ⟨Bp, 0, none⟩), .pointer (some ⟨Bw, 0, none⟩)]] w fun e w' =>
      e = .returned (.tuple #[]) ∧ Two Bp Bw (F.set y a n x) x w' ∧ KeptB B w w' := by
  have hmf : ∀ (fn : Fn) (first cap : Array Value) (w : World), (Instr.makeFunc fn first cap).run Try.prog w = .ok (.func fn first cap) w := fun _ _ _ _ => rfl
  by_cases hn : n < 1
  · have H0 := Lib.hid (show Two Bp Bw (F.set y a n x) x w from by rw [F.set, F.set_end y.toNat x.toNat a n 0 32 (by omega) (by omega), F.set_start y.toNat x.toNat a n 0 (by omega) (by omega), Int.toNat_of_nonneg hy0]; exact h)
    go_enter Try.func31, Try.ntmps31
    go_wp2
    (try simp only [Exit.inBlock, Exit.then]); refine bodyPost_ret (results_none rfl _ _ _) rfl ?_
    exact ⟨rfl, H0.out, KeptB.refl _ _⟩
  · have hn' : 1 ≤ n := by omega
    rcases (show a < 0 ∨ 0 ≤ a by omega) with hneg | hneg
    · have H0 := Lib.hid (show Two Bp Bw (F.setP y.toNat x.toNat a n 0 : Nat) x w from by rw [F.set_start y.toNat x.toNat a n 0 (by omega) (by omega), Int.toNat_of_nonneg hy0]; exact h)
      clear h hn
      go_enter Try.func31, Try.ntmps31
      go_wp2_with fail
      go_loopw [6] (fun i wr => ∃ k : Int, 0 ≤ k ∧ a ≤ k ∧ (k ≤ 32 ∨ k ≤ a) ∧ i = .int .i64 k ∧ Two Bp Bw (F.setP y.toNat x.toNat a n k : Nat) x wr ∧ KeptB B w wr) (fun i _ => (32 - intOf i).toNat)
      case atStart => exact ⟨_, by omega, by omega, by omega, rfl, H0.out, KeptB.refl _ _⟩
      case round =>
        obtain ⟨k, hk0, hka, hk1, rfl, hT, hK⟩ := hrel
        clear H0
        by_cases hlt : k < 32
        · by_cases hin : k - a < n
          · have Hs := Lib.hid (F.set_stepI y x a n k hx0 hx1 hk0 hlt hka hin)
            (try have hpl := F.place_neg k a hneg ha0 hk0 hlt)
            go_wp2_with fail
            refine (set1_any k (k - a) _ x B Bp Bw hk0 hlt (by omega) hB _ hT).mono ?_
            rintro e w2 ⟨rfl, hT2, hK2⟩
            rw [Hs.out] at hT2
            (try clear hpl)
            go_wp2_with fail
            go_roundw
            case rel => exact ⟨k + 1, by omega, by omega, by omega, rfl, hT2, hK.trans hK2⟩
            case measure => simp [intOf]; omega
          · have He := Lib.hid (show F.set y a n x = (F.setP y.toNat x.toNat a n k : Nat) from by rw [F.set, F.set_end y.toNat x.toNat a n k 32 (by omega) (by omega)])
            (try have hpl := F.place_neg k a hneg ha0 hk0 hlt)
            go_wp2_with fail
            (try simp only [Exit.inBlock, Exit.then]); refine bodyPost_ret (results_none rfl _ _ _) rfl ?_
            exact ⟨rfl, by rw [He.out]; exact hT, hK⟩
        · have He := Lib.hid (show F.set y a n x = (F.setP y.toNat x.toNat a n k : Nat) from by rw [F.set]; rcases (show k = 32 ∨ k ≤ a by omega) with e | e; (rw [e]); (rw [F.set_end y.toNat x.toNat a n 32 k (by omega) (by omega)]))
          go_wp2_with fail
          go_end0
          exact ⟨rfl, by rw [He.out]; exact hT, hK⟩
    · have H0 := Lib.hid (show Two Bp Bw (F.setP y.toNat x.toNat a n a : Nat) x w from by rw [F.set_start y.toNat x.toNat a n a (by omega) (by omega), Int.toNat_of_nonneg hy0]; exact h)
      clear h hn
      go_enter Try.func31, Try.ntmps31
      go_wp2_with fail
      go_loopw [6] (fun i wr => ∃ k : Int, 0 ≤ k ∧ a ≤ k ∧ (k ≤ 32 ∨ k ≤ a) ∧ i = .int .i64 k ∧ Two Bp Bw (F.setP y.toNat x.toNat a n k : Nat) x wr ∧ KeptB B w wr) (fun i _ => (32 - intOf i).toNat)
      case atStart => exact ⟨_, by omega, by omega, by omega, rfl, H0.out, KeptB.refl _ _⟩
      case round =>
        obtain ⟨k, hk0, hka, hk1, rfl, hT, hK⟩ := hrel
        clear H0
        by_cases hlt : k < 32
        · by_cases hin : k - a < n
          · have Hs := Lib.hid (F.set_stepI y x a n k hx0 hx1 hk0 hlt hka hin)
            (try have hpl := F.place_neg k a hneg ha0 hk0 hlt)
            go_wp2_with fail
            refine (set1_any k (k - a) _ x B Bp Bw hk0 hlt (by omega) hB _ hT).mono ?_
            rintro e w2 ⟨rfl, hT2, hK2⟩
            rw [Hs.out] at hT2
            (try clear hpl)
            go_wp2_with fail
            go_roundw
            case rel => exact ⟨k + 1, by omega, by omega, by omega, rfl, hT2, hK.trans hK2⟩
            case measure => simp [intOf]; omega
          · have He := Lib.hid (show F.set y a n x = (F.setP y.toNat x.toNat a n k : Nat) from by rw [F.set, F.set_end y.toNat x.toNat a n k 32 (by omega) (by omega)])
            (try have hpl := F.place_neg k a hneg ha0 hk0 hlt)
            go_wp2_with fail
            (try simp only [Exit.inBlock, Exit.then]); refine bodyPost_ret (results_none rfl _ _ _) rfl ?_
            exact ⟨rfl, by rw [He.out]; exact hT, hK⟩
        · have He := Lib.hid (show F.set y a n x = (F.setP y.toNat x.toNat a n k : Nat) from by rw [F.set]; rcases (show k = 32 ∨ k ≤ a by omega) with e | e; (rw [e]); (rw [F.set_end y.toNat x.toNat a n 32 k (by omega) (by omega)]))
          go_wp2_with fail
          go_end0
          exact ⟨rfl, by rw [He.out]; exact hT, hK⟩
end Go.Proofs.Ytliofphhoaopkaa
