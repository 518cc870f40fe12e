/-
  The contract of join.
-/
import Derived.Test.YtliofphhoaopkaaIsa2
namespace Go.Proofs.Ytliofphhoaopkaa
open Go.RowKit
set_option linter.unusedVariables false
set_option linter.unusedSimpArgs false
/-- the fields set one behind the other -/
def I.join (f g h : Nat → Int) : Nat → Int
  | 0 => 0
  | k + 1 => F.set (I.join f g h k) (f k) (g k) (h k % 4294967296)
theorem I.join_lo (f g h : Nat → Int) (k : Nat) : 0 ≤ I.join f g h k := by cases k; exact Int.le_refl _; exact F.set_lo _ _ _ _
theorem I.join_hi (f g h : Nat → Int) (k : Nat) : I.join f g h k < 4294967296 := by cases k; (show (0 : Int) < _; omega); exact F.set_hi _ _ _ _
/-- parts lie in the block B -/
def Parts (B n : Nat) (f g h : Nat → Int) (w : World) : Prop :=
  ∀ k, k < n → w.cell? ⟨B, k * 3, none⟩ = some (.int .i64 (f k)) ∧ w.cell? ⟨B, k * 3 + 1, none⟩ = some (.int .i64 (g k)) ∧ w.cell? ⟨B, k * 3 + 2, none⟩ = some (.int .i64 (h k))
set_option maxHeartbeats 1000000 in
theorem join_any (f g h : Nat → Int) (B n : Nat) (hn : n ≤ 100) (hf : ∀ k, k < n → 0 ≤ f k ∧ f k ≤ 31) (hg : ∀ k, k < n → 0 ≤ g k ∧ g k ≤ 32) (w : World) (hB : B < w.heap.size) (hP : Parts B n f g h w) :
    Calls Try.prog 34 #[.slice (some ⟨B, 0, none⟩) n n] w fun e w' => e = .returned (.int .u32 (I.join f g h n)) ∧ Kept w w' := by
  have HP := Lib.hid hP
  have HF := Lib.hid hf
  have HG := Lib.hid hg
  clear hP hf hg
  go_enter Try.func34, Try.ntmps34
  go_wp2_with fail
  go_loopw [3, 8] (fun v i wr => ∃ k : Nat, k ≤ n ∧ i = .int .i64 k ∧ v = .int .u32 (I.join f g h k) ∧ Kept w wr) (fun _ i _ => n - (intOf i).toNat)
  case atStart => exact ⟨0, by omega, rfl, rfl, Kept.refl _⟩
  case round =>
    obtain ⟨k, hk, rfl, rfl, hK⟩ := hrel
    by_cases hlt : k < n
    · obtain ⟨c0, c1, c2⟩ := HP.out k hlt
      rw [← hK.cell (p := ⟨B, k * 3, none⟩) hB] at c0
      rw [← hK.cell (p := ⟨B, k * 3 + 1, none⟩) hB] at c1
      rw [← hK.cell (p := ⟨B, k * 3 + 2, none⟩) hB] at c2
      obtain ⟨f0, f1⟩ := HF.out k hlt
      obtain ⟨g0, g1⟩ := HG.out k hlt
      have HE := Lib.hid (show I.join f g h (k + 1) = F.set (I.join f g h k) (f k) (g k) (h k % 4294967296) from rfl)
      have J0 := I.join_lo f g h k
      have J1 := I.join_hi f g h k
      generalize I.join f g h k = J at *
      generalize f k = fk at *
      generalize g k = gk at *
      generalize h k = x at *
      go_wp2_with fail
      refine (set_any J fk gk (x % 4294967296) J0 J1 (by omega) (by omega) (by omega) (by omega) (by omega) _).mono ?_
      rintro e w2 ⟨rfl, hK2⟩
      have hK3 := Lib.hid ((hK.alloc _ _).trans hK2)
      clear hK hK2
      go_wp2_with fail
      go_roundw
      case rel => exact ⟨k + 1, by omega, by go_num, by rw [HE.out], hK3.out⟩
      case measure => simp [intOf]; omega
    · obtain rfl : k = n := by omega
      go_wp2_with fail
      go_ret
      exact ⟨rfl, hK⟩
end Go.Proofs.Ytliofphhoaopkaa
