/-
  The walk of the law AluKeeps.
-/
import Derived.Test.YtghjdpmijnlhjaaAluH0
import Derived.Test.YtghjdpmijnlhjaaAluH1
import Derived.Test.YtghjdpmijnlhjaaAluH2
import Derived.Test.YtghjdpmijnlhjaaAluH3
import Derived.Test.YtghjdpmijnlhjaaIsaF
namespace Go.Proofs.Ytghjdpmijnlhjaa
open Go.RowKit
set_option linter.unusedVariables false
set_option linter.unusedSimpArgs false
theorem A.keep_low (op : Nat) (h : op ≤ 7) (s : A.Regs) (b n : Int) (u : Bool) : (A.work op s b n u).2 = s := by
  rcases (show op = 0 ∨ op = 1 ∨ op = 2 ∨ op = 3 ∨ op = 4 ∨ op = 5 ∨ op = 6 ∨ op = 7 by omega) with rfl | rfl | rfl | rfl | rfl | rfl | rfl | rfl
  · rw [A.work_0]
  · rw [A.work_1]
  · rw [A.work_2]
  · rw [A.work_3]
  · rw [A.work_4]
  · rw [A.work_5]
  · rw [A.work_6]
  · rw [A.work_7]
/-- what is kept: the registers but A, and all that is shown -/
theorem A.done_low (s : A.Regs) (x : I.Ins) (h : (A.res s x).2 = s) : A.show' (A.set s x.a.toNat (A.res s x).1) (A.res s x).1 = A.done s x := by
  unfold A.done; rw [h]
theorem A.done_cv (s : A.Regs) (x : I.Ins) (C V : Bool) (h : (A.res s x).2 = A.setV (A.setC s C) V) : A.show' (A.setV (A.setC (A.set s x.a.toNat (A.res s x).1) (A.done s x).c) (A.done s x).v) (A.res s x).1 = A.done s x := by
  unfold A.done; rw [h]; rfl
theorem A.done_hh (s : A.Regs) (x : I.Ins) (H : Int) (h : (A.res s x).2 = A.setH s H) : A.show' (A.setH (A.set s x.a.toNat (A.res s x).1) (A.done s x).h) (A.res s x).1 = A.done s x := by
  unfold A.done; rw [h]; rfl
theorem A.done_at (s : A.Regs) (x : I.Ins) : (A.done s x).r x.a.toNat = (A.res s x).1 := by rw [A.done_r, if_pos rfl]
theorem A.res_cv (s : A.Regs) (k op a b c i : Int) (u : Bool) (hk : k = 1 ∨ k = 2) (ho : op = 8 ∨ op = 9) : ∃ C V, (A.res s ⟨k, op, a, b, c, i, u⟩).2 = A.setV (A.setC s C) V := by
  rcases hk with rfl | rfl <;> rcases ho with rfl | rfl
  · rw [A.res_1, show Int.toNat 8 = 8 from rfl, A.work_8]; exact ⟨_, _, rfl⟩
  · rw [A.res_1, show Int.toNat 9 = 9 from rfl, A.work_9]; exact ⟨_, _, rfl⟩
  · rw [A.res_2, show Int.toNat 8 = 8 from rfl, A.work_8]; exact ⟨_, _, rfl⟩
  · rw [A.res_2, show Int.toNat 9 = 9 from rfl, A.work_9]; exact ⟨_, _, rfl⟩
theorem A.res_hh (s : A.Regs) (k op a b c i : Int) (u : Bool) (hk : k = 1 ∨ k = 2) (ho : op = 10 ∨ op = 11) : ∃ H, (A.res s ⟨k, op, a, b, c, i, u⟩).2 = A.setH s H := by
  rcases hk with rfl | rfl <;> rcases ho with rfl | rfl
  · rw [A.res_1, show Int.toNat 10 = 10 from rfl, A.work_10]; exact ⟨_, rfl⟩
  · rw [A.res_1, show Int.toNat 11 = 11 from rfl, A.work_div 11 (by omega)]; exact ⟨_, rfl⟩
  · rw [A.res_2, show Int.toNat 10 = 10 from rfl, A.work_10]; exact ⟨_, rfl⟩
  · rw [A.res_2, show Int.toNat 11 = 11 from rfl, A.work_div 11 (by omega)]; exact ⟨_, rfl⟩
theorem A.res_low (s : A.Regs) (k op a b c i : Int) (u : Bool) (hk : k = 1 ∨ k = 2) (h0 : 0 ≤ op) (h7 : op ≤ 7) : (A.res s ⟨k, op, a, b, c, i, u⟩).2 = s := by
  rcases hk with rfl | rfl
  · rw [A.res_1]; exact A.keep_low _ (by omega) _ _ _ _
  · rw [A.res_2]; exact A.keep_low _ (by omega) _ _ _ _
theorem walk_Keeps (s : A.Regs) (k0 op0 a0 b0 c0 i0 : Int) (u0 : Bool) (hs : A.Ok s) (w : World) :
    Calls Try.prog 4 #[.agg (A.cells s), .agg #[.int .i64 k0, .int .i64 op0, .int .i64 a0, .int .i64 b0, .int .i64 c0, .int .i64 i0, .bool u0]] w fun e w' => e = .returned (.bool true) ∧ Below w.heap.size w w' := by
  obtain ⟨k, op, a, b, c, i, u, hm, CF⟩ := fit_any k0 op0 a0 b0 c0 i0 u0
  replace CF := Lib.hid CF
  have ha : 0 ≤ a ∧ a < 16 := by have := hm.1; simp only at this; omega
  by_cases h5 : k = 5 ∨ k = 6 ∨ k = 7
  · have CD := do_no s k op a b c i u (Or.inr h5)
    rcases h5 with rfl | rfl | rfl
    · exact keeps_5 s k0 op0 a0 b0 c0 i0 op a b c i u0 u w CF (Lib.hid CD)
    · exact keeps_6 s k0 op0 a0 b0 c0 i0 op a b c i u0 u w CF (Lib.hid CD)
    · exact keeps_7 s k0 op0 a0 b0 c0 i0 op a b c i u0 u w CF (Lib.hid CD)
  · have hk : k = 1 ∨ k = 2 ∨ k = 3 ∨ k = 4 := by have := A.may_kind _ hm; simp only at this; omega
    by_cases ht : A.Traps s ⟨k, op, a, b, c, i, u⟩
    · have CD := do_div s k op a b c i u hs hm ht
      obtain ⟨hk2, h11, _⟩ := ht
      simp only at hk2 h11
      subst h11
      rcases hk2 with rfl | rfl
      · exact keeps_t1 s k0 op0 a0 b0 c0 i0 a b c i u0 u w CF (Lib.hid CD)
      · exact keeps_t2 s k0 op0 a0 b0 c0 i0 a b c i u0 u w CF (Lib.hid CD)
    · have CD := Lib.hid (do_yes s k op a b c i u hs hm hk ht)
      have hr := A.res_ok s _ hs hm
      have eX := A.done_at s ⟨k, op, a, b, c, i, u⟩
      have hop : (k = 1 ∨ k = 2) → 0 ≤ op ∧ op ≤ 11 := by have := hm.2; simp only at this; omega
      have CL := fun (U : A.Regs) (h : A.show' U (A.res s ⟨k, op, a, b, c, i, u⟩).1 = A.done s ⟨k, op, a, b, c, i, u⟩) => Lib.hid (h ▸ show_any U (A.res s ⟨k, op, a, b, c, i, u⟩).1 hr.1.1 hr.1.2)
      by_cases h12 : k = 1 ∨ k = 2
      · have hop' := hop h12
        by_cases h7 : op ≤ 7
        · have CS := CL _ (A.done_low s ⟨k, op, a, b, c, i, u⟩ (A.res_low s k op a b c i u h12 hop'.1 h7))
          rcases h12 with rfl | rfl
          · exact keeps_1_l s _ k0 op0 a0 b0 c0 i0 op a b c i u0 u _ ha.1 ha.2 eX (by omega) (by simp; omega) (by omega) (by simp; omega) (by omega) (by simp; omega) (by omega) (by simp; omega) w CF CD CS
          · exact keeps_2_l s _ k0 op0 a0 b0 c0 i0 op a b c i u0 u _ ha.1 ha.2 eX (by omega) (by simp; omega) (by omega) (by simp; omega) (by omega) (by simp; omega) (by omega) (by simp; omega) w CF CD CS
        · by_cases h9 : op = 8 ∨ op = 9
          · obtain ⟨C, V, hcv⟩ := A.res_cv s k op a b c i u h12 h9
            have CS := CL _ (A.done_cv s ⟨k, op, a, b, c, i, u⟩ C V hcv)
            rcases h12 with rfl | rfl <;> rcases h9 with rfl | rfl
            · exact keeps_1_8 s _ k0 op0 a0 b0 c0 i0 a b c i u0 u _ ha.1 ha.2 eX w CF CD CS
            · exact keeps_1_9 s _ k0 op0 a0 b0 c0 i0 a b c i u0 u _ ha.1 ha.2 eX w CF CD CS
            · exact keeps_2_8 s _ k0 op0 a0 b0 c0 i0 a b c i u0 u _ ha.1 ha.2 eX w CF CD CS
            · exact keeps_2_9 s _ k0 op0 a0 b0 c0 i0 a b c i u0 u _ ha.1 ha.2 eX w CF CD CS
          · have h11 : op = 10 ∨ op = 11 := by omega
            obtain ⟨H, hh⟩ := A.res_hh s k op a b c i u h12 h11
            have CS := CL _ (A.done_hh s ⟨k, op, a, b, c, i, u⟩ H hh)
            rcases h12 with rfl | rfl <;> rcases h11 with rfl | rfl
            · exact keeps_1_10 s _ k0 op0 a0 b0 c0 i0 a b c i u0 u _ ha.1 ha.2 eX w CF CD CS
            · exact keeps_1_11 s _ k0 op0 a0 b0 c0 i0 a b c i u0 u _ ha.1 ha.2 eX w CF CD CS
            · exact keeps_2_10 s _ k0 op0 a0 b0 c0 i0 a b c i u0 u _ ha.1 ha.2 eX w CF CD CS
            · exact keeps_2_11 s _ k0 op0 a0 b0 c0 i0 a b c i u0 u _ ha.1 ha.2 eX w CF CD CS
      · have h34 : k = 3 ∨ k = 4 := by omega
        rcases h34 with rfl | rfl
        · have CS := CL _ (A.done_low s ⟨3, op, a, b, c, i, u⟩ (by rw [A.res_3]))
          exact keeps_3 s _ k0 op0 a0 b0 c0 i0 op a b c i u0 u _ ha.1 ha.2 eX w CF CD CS
        · have CS := CL _ (A.done_low s ⟨4, op, a, b, c, i, u⟩ (by rw [A.res_4]))
          exact keeps_4 s _ k0 op0 a0 b0 c0 i0 op a b c i u0 u _ ha.1 ha.2 eX w CF CD CS
end Go.Proofs.Ytghjdpmijnlhjaa
