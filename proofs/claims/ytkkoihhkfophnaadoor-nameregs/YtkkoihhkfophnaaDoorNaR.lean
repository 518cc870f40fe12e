/-
  The walk of NameRegs.
-/
import Derived.Test.YtkkoihhkfophnaaDoorNaB
import Derived.Test.YtkkoihhkfophnaaDoorNaS
namespace Go.Proofs.YtkkoihhkfophnaaDoor
open Go.RowKit
set_option linter.unusedVariables false
set_option linter.unusedSimpArgs false
set_option maxRecDepth 100000
set_option maxHeartbeats 4000000 in
set_option maxRecDepth 100000 in
theorem walk_regs_at (n d k x r : Int) (S D : ByteArray) (b : Bool) (w : World) (n0 : 0 ≤ n) (n1 : n < 256) (d0 : 0 ≤ d) (d1 : d < 256) (hk : n % 16 = k) (hx : d % 10 = x) (k0 : 0 ≤ k) (k1 : k ≤ 15) (x0 : 0 ≤ x) (x1 : x ≤ 9)
    (hS : S.size ≤ 3) (hD : D.size = 1) (hDe : Hid (D = strOfNums [48 + x]))
    (SH : Hid (Calls Tryd.prog 8 #[] w fun e w' => e = .returned (.bool true) ∧ Below w.heap.size w w'))
    (RN : Hid (∀ w, Calls Tryd.prog 18 #[.int .i64 k] w fun e w' => e = .returned (.string S) ∧ w = w'))
    (R1 : Hid (∀ w, Calls Tryd.prog 10 #[.string S] w fun e w' => e = .returned (.tuple #[.int .i64 k, .bool true]) ∧ w = w'))
    (R2 : Hid (∀ w, Calls Tryd.prog 10 #[.string (S ++ D)] w fun e w' => e = .returned (.tuple #[.int .i64 r, .bool b]) ∧ w = w'))
    (R3 : Hid (∀ w, Calls Tryd.prog 10 #[.string (⟨#[82, 48]⟩ ++ D)] w fun e w' => e = .returned (.tuple #[.int .i64 0, .bool false]) ∧ w = w'))
    (R4 : Hid (∀ w, Calls Tryd.prog 10 #[.string (⟨#[114]⟩ ++ D)] w fun e w' => e = .returned (.tuple #[.int .i64 0, .bool false]) ∧ w = w'))
    (L1 : Hid (∀ w, Calls Tryd.prog 14 #[.string S] w fun e w' => e = .returned (.bool false) ∧ w = w'))
    (L2 : Hid (∀ w, Calls Tryd.prog 14 #[.string (⟨#[82]⟩ ++ D ++ D)] w fun e w' => e = .returned (.bool false) ∧ w = w'))
    (L3 : Hid (∀ w, Calls Tryd.prog 14 #[.string (⟨#[82]⟩ ++ D ++ D ++ D)] w fun e w' => e = .returned (.bool true) ∧ w = w'))
    (L4 : Hid (∀ w, Calls Tryd.prog 14 #[.string (⟨#[114]⟩ ++ D)] w fun e w' => e = .returned (.bool true) ∧ w = w'))
    (N1 : Hid (∀ w, Calls Tryd.prog 18 #[.int .i64 (16 + k)] w fun e w' => e = .returned (.string ⟨#[]⟩) ∧ w = w'))
    (N2 : Hid (∀ w, Calls Tryd.prog 18 #[.int .i64 (-1 - k)] w fun e w' => e = .returned (.string ⟨#[]⟩) ∧ w = w'))
    (hb : (k = 1 ∧ x < 6 ∧ b = true) ∨ (k = 1 ∧ ¬ x < 6 ∧ b = false) ∨ ((k == 1) = false ∧ ¬ k = 1 ∧ b = false)) :
    Calls Tryd.prog 7 #[.int .u8 n, .int .u8 d] w fun e w' => e = .returned (.bool true) ∧ Below w.heap.size w w' := by
  have hc1 : ¬ 9223372036854775807 < S.size + 1 := by omega
  go_enter Tryd.func7, Tryd.ntmps7
  go_wp2_with (fail)
  refine SH.out.mono ?_; rintro e w1 ⟨rfl, hB⟩
  replace hB := Lib.hid hB
  clear SH
  go_wp2_with (fail)
  refine (RN.out _).mono ?_; rintro e w2 ⟨rfl, rfl⟩
  clear RN
  go_wp2_with (fail)
  refine (R1.out _).mono ?_; rintro e w2 ⟨rfl, rfl⟩
  clear R1
  have hY := Lib.hid (Rw.one (L := 256) (Has.new #[.int .u8 (48 + x)] 5 w1) (by omega) (by omega))
  replace hB := Lib.hid (Bel.trans hB.out ((Kept.refl w1).alloc #[.int .u8 (48 + x)] 5).below)
  go_upto_region 6 with (first | (with_reducible refine want_do (o := ⟨some 33, _, _, _, _, _⟩) rfl (exec_text Tryd.underlying35 Tryd.underlying5 Tryd.underlying9 (.tmp 32) rfl rfl hY.out) ?_) | fail)
  rw [← hDe.out]
  clear hY hDe
  generalize (w1.alloc (.cells #[.int .u8 (48 + x)] 5)) = w2 at *
  go_wp2_with (fail)
  refine (R2.out _).mono ?_; rintro e w3 ⟨rfl, rfl⟩
  clear R2
  go_wp2_with (fail)
  refine (R3.out _).mono ?_; rintro e w3 ⟨rfl, rfl⟩
  clear R3
  go_wp2_with (fail)
  refine (R4.out _).mono ?_; rintro e w3 ⟨rfl, rfl⟩
  clear R4
  rcases hb with ⟨rfl, h2, rfl⟩ | ⟨rfl, h2, rfl⟩ | ⟨h1, h2, rfl⟩
  all_goals
    go_wp2_with (fail)
    refine (L1.out _).mono ?_; rintro e w3 ⟨rfl, rfl⟩
    clear L1
    go_wp2_with (fail)
    refine (L2.out _).mono ?_; rintro e w3 ⟨rfl, rfl⟩
    clear L2
    go_wp2_with (fail)
    refine (L3.out _).mono ?_; rintro e w3 ⟨rfl, rfl⟩
    clear L3
    go_wp2_with (fail)
    refine (L4.out _).mono ?_; rintro e w3 ⟨rfl, rfl⟩
    clear L4
    go_wp2_with (fail)
    refine (N1.out _).mono ?_; rintro e w3 ⟨rfl, rfl⟩
    clear N1
    go_wp2_with (fail)
    refine (N2.out _).mono ?_; rintro e w3 ⟨rfl, rfl⟩
    go_wp2
    go_ret
    first
    | exact ⟨rfl, hB.out⟩
    | exact ⟨by show Ending.returned (Value.bool (!decide (x < 6))) = _; rw [decide_eq_false (by omega)]; rfl, hB.out⟩
theorem walk_regs (w : World) (n d : Int) (n0 : 0 ≤ n) (n1 : n < 256) (d0 : 0 ≤ d) (d1 : d < 256) (hC : Na.Conds w) : Calls Tryd.prog 7 #[.int .u8 n, .int .u8 d] w fun e w' => e = .returned (.bool true) ∧ Below w.heap.size w w' := by
  obtain ⟨k, hk⟩ : ∃ k, n % 16 = k := ⟨_, rfl⟩
  obtain ⟨x, hx⟩ : ∃ x, d % 10 = x := ⟨_, rfl⟩
  have k0 : 0 ≤ k ∧ k ≤ 15 := by omega
  have x0 : 0 ≤ x ∧ x ≤ 9 := by omega
  have mk : k ∈ Na.sixteen := by unfold Na.sixteen; simp only [List.mem_cons, List.not_mem_nil, or_false]; omega
  have mx : 48 + x ∈ Na.tens := by unfold Na.tens; simp only [List.mem_cons, List.not_mem_nil, or_false]; omega
  obtain ⟨a1, a2, a3, a4, a5, a6⟩ := Na.rs_all k mk
  obtain ⟨b1, b2, b3, b4, b5, b6, _, _⟩ := Na.regs_all k mk (48 + x) mx
  obtain ⟨D, hD⟩ : ∃ D, D = strOfNums [48 + x] := ⟨_, rfl⟩
  have bD : L.bs D = [48 + x] := by rw [hD]; exact L.bs_str _ (by simp; omega)
  have sD : D.size = 1 := by rw [← L.bs_len, bD]; rfl
  have regAt : ∀ (s : ByteArray) (q : Option Int), Na.reg (L.bs s) = q → Hid (∀ w, Calls Tryd.prog 10 #[.string s] w fun e w' => e = .returned (Na.regV q) ∧ w = w') := fun s q h => Lib.hid fun w => by
    have := Na.reg_any s w
    rw [h] at this
    exact this
  have labAt : ∀ (s : ByteArray) (q : Bool), s.size ≤ 100 → Na.label (L.bs s) = q → Hid (∀ w, Calls Tryd.prog 14 #[.string s] w fun e w' => e = .returned (.bool q) ∧ w = w') := fun s q hs h => Lib.hid fun w => by
    have := Na.label_any s (by omega) w
    rw [h] at this
    exact this
  have nameAt : ∀ (m : Int) (s : ByteArray), Na.rs m = s → Hid (∀ w, Calls Tryd.prog 18 #[.int .i64 m] w fun e w' => e = .returned (.string s) ∧ w = w') := fun m s h => Lib.hid fun w => by
    have := Na.regName_any m w
    rw [h] at this
    exact this
  have sz : ∀ a b : ByteArray, (a ++ b).size = a.size + b.size := fun a b => ByteArray.size_append
  have q2 : Na.reg (L.bs (Na.rs k ++ D)) = if k = 1 ∧ 48 + x < 54 then some (10 + (48 + x - 48)) else none := by rw [L.bs_append, a2, bD, b1]
  have q3 : Na.reg (L.bs (⟨#[82, 48]⟩ ++ D)) = none := by rw [L.bs_append, bD]; exact b2
  have q4 : Na.reg (L.bs (⟨#[114]⟩ ++ D)) = none := by rw [L.bs_append, bD]; exact b3
  have q5 : Na.label (L.bs (⟨#[82]⟩ ++ D ++ D)) = false := by rw [L.bs_append, L.bs_append, bD]; exact b4
  have q6 : Na.label (L.bs (⟨#[82]⟩ ++ D ++ D ++ D)) = true := by rw [L.bs_append, L.bs_append, L.bs_append, bD]; exact b5
  have q7 : Na.label (L.bs (⟨#[114]⟩ ++ D)) = true := by rw [L.bs_append, bD]; exact b6
  have SH := Lib.hid (Na.shown_any hC)
  have L2 := labAt _ _ (by rw [sz, sz, sD]; decide) q5
  have L3 := labAt _ _ (by rw [sz, sz, sz, sD]; decide) q6
  have L4 := labAt _ _ (by rw [sz, sD]; decide) q7
  by_cases c : k = 1 ∧ x < 6
  · rw [if_pos (by omega)] at q2
    exact walk_regs_at n d k x _ (Na.rs k) D true w n0 n1 d0 d1 hk hx k0.1 k0.2 x0.1 x0.2 a4 sD (Lib.hid hD) SH (nameAt _ _ rfl) (regAt _ _ a1) (regAt _ _ q2) (regAt _ _ q3) (regAt _ _ q4) (labAt _ _ (by omega) a3) L2 L3 L4 (nameAt _ _ a5) (nameAt _ _ a6) (Or.inl ⟨c.1, c.2, rfl⟩)
  · rw [if_neg (by omega)] at q2
    refine walk_regs_at n d k x _ (Na.rs k) D false w n0 n1 d0 d1 hk hx k0.1 k0.2 x0.1 x0.2 a4 sD (Lib.hid hD) SH (nameAt _ _ rfl) (regAt _ _ a1) (regAt _ _ q2) (regAt _ _ q3) (regAt _ _ q4) (labAt _ _ (by omega) a3) L2 L3 L4 (nameAt _ _ a5) (nameAt _ _ a6) (Or.inr ?_)
    by_cases c1 : k = 1
    · exact Or.inl ⟨c1, fun h => c ⟨c1, h⟩, rfl⟩
    · exact Or.inr ⟨by simpa using c1, c1, rfl⟩
end Go.Proofs.YtkkoihhkfophnaaDoor
