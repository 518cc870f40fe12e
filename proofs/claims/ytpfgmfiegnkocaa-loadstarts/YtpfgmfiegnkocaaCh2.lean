/-
  The contract of the document's Rise.
-/
import Derived.Test.YtpfgmfiegnkocaaM04
namespace Go.Proofs.Ytpfgmfiegnkocaa
open Go.RowKit
set_option linter.unusedVariables false
set_option linter.unusedSimpArgs false
set_option maxRecDepth 100000
theorem Ch.low {m : Nat} {ss : List Int} {k : Nat} (ho : ∀ j, j < k + 1 → Ch.OkAt m ss j) (hk : k + 1 ≤ ss.length) : -1 ≤ ss.getD k 0 := by
  have c0 := Ch.prev_ge (m := m) (ss := ss.take (k + 1)) (fun j hj => by
    have hj2 : j < k + 1 := by simp at hj; omega
    have := ho j hj2
    have e : ∀ q, q < k + 1 → (ss.take (k + 1)).getD q 0 = ss.getD q 0 := fun q hq => by rw [List.getD_eq_getElem?_getD, List.getElem?_take, if_pos hq, List.getD_eq_getElem?_getD]
    have e2 : Ch.prev (ss.take (k + 1)) j = Ch.prev ss j := by
      cases j with
      | zero => rfl
      | succ j => exact e j (by omega)
    unfold Ch.OkAt at *
    rw [e2, e j hj2]
    exact this) (k + 1) (by simp; omega)
  have : Ch.prev (ss.take (k + 1)) (k + 1) = ss.getD k 0 := by
    show (ss.take (k + 1)).getD k 0 = _
    rw [List.getD_eq_getElem?_getD, List.getElem?_take, if_pos (by omega), List.getD_eq_getElem?_getD]
  omega
set_option maxRecDepth 100000 in
set_option maxHeartbeats 4000000 in
theorem Ch.rise_any {w : World} {A : Option Addr} {n c : Nat} {ss : List Int} (h : In w A n c ss) (m : Nat) (hm : m ≤ 1000000) :
    Calls Try.prog 45 #[.slice A n c, .int .i64 m] w fun e w' => e = .returned (.bool (decide (Ch.Rises m ss))) ∧ Below w.heap.size w w' := by
  have hl := h.len
  have hle := h.le
  have hmx := h.max
  unfold maxLen at hmx
  have hn1 : (n : Int) ≤ 9223372036854775807 := by omega
  have hA : n = 0 ∨ ∃ b off, A = some ⟨b, off, none⟩ := (Nat.eq_zero_or_pos n).imp_right h.place
  have H := Lib.hid h
  clear h hmx
  go_enter Try.func45, Try.ntmps45
  go_wp2
  go_loopw [5] (fun i wr => ∃ k : Nat, k ≤ n ∧ i = .int .i64 k ∧ (∀ j, j < k → Ch.OkAt m ss j) ∧ Kept w wr) (fun i _ => n - (intOf i).toNat)
  case atStart => exact ⟨0, Nat.zero_le _, rfl, fun j hj => by omega, Kept.refl w⟩
  case round =>
    obtain ⟨k, hk, rfl, ho, hK⟩ := hrel
    by_cases d1 : k < n
    · have d2 : (k : Int) < n := by omega
      rcases hA with h0 | ⟨b, off, rfl⟩
      · omega
      have g1 := (hK.cell (p := ⟨b, off + k, none⟩) (H.out.lt (by omega))).trans (H.out.at k d1)
      by_cases c : Ch.OkAt m ss k
      · have R := Lib.hid (Ch.before ho c)
        cases k with
        | zero =>
          obtain ⟨c1, c2, c3⟩ := c
          replace c1 : -1 < ss.getD 0 0 := c1
          replace hK := Lib.hid hK
          clear ho
          generalize ss.getD 0 0 = x at *
          have e1 : ¬ x < 0 := by omega
          have e2 : ¬ (m : Int) ≤ x := by omega
          have e3 : ¬ 65534 < x := by omega
          have q1 : decide (x < 0) = false := decide_eq_false e1
          have q2 : decide ((m : Int) ≤ x) = false := decide_eq_false e2
          have q3 : decide (65534 < x) = false := decide_eq_false e3
          rw [Nat.add_zero] at g1
          clear c1 c2 c3
          go_wp2_with (fail)
          refine WS.start 35 (by kernel_rfl) (by kernel_rfl) ?_
          intro w2 hw2
          replace g1 := (show wr.drew.cell? _ = some _ from g1)
          rw [← hw2] at g1
          replace hK := Lib.hid (show Kept w w2 by rw [hw2]; exact hK.out.drew)
          clear hw2
          simp only [List.take_succ_cons, List.take_zero, List.drop_succ_cons, List.drop_zero]
          refine WS.step rfl (fun K hK => ?_); go_simp; (try (simp only [q1, q2, q3]; (try go_simp))); refine hK _ ?_; clear hK K
          refine WS.step rfl (fun K hK => ?_); go_simp; (try (simp only [q1, q2, q3]; (try go_simp))); refine hK _ ?_; clear hK K
          refine WS.step rfl (fun K hK => ?_); go_simp; (try (simp only [q1, q2, q3]; (try go_simp))); refine hK _ ?_; clear hK K
          refine WS.step rfl (fun K hK => ?_); go_simp; (try (simp only [q1, q2, q3]; (try go_simp))); refine hK _ ?_; clear hK K
          refine WS.step rfl (fun K hK => ?_); go_simp; (try (simp only [q1, q2, q3]; (try go_simp))); refine hK _ ?_; clear hK K
          refine WS.step rfl (fun K hK => ?_); go_simp; (try (simp only [q1, q2, q3]; (try go_simp))); refine hK _ ?_; clear hK K
          refine WS.want rfl (fun K hK => ?_); go_simp; (try (simp only [q1, q2, q3]; (try go_simp))); refine hK _ ?_; clear hK K
          refine WS.want rfl (fun K hK => ?_); go_simp; (try (simp only [q1, q2, q3]; (try go_simp))); refine hK _ ?_; clear hK K
          refine WS.want rfl (fun K hK => ?_); go_simp; (try (simp only [q1, q2, q3]; (try go_simp))); refine hK _ ?_; clear hK K
          refine WS.want rfl (fun K hK => ?_); go_simp; (try (simp only [q1, q2, q3]; (try go_simp))); refine hK _ ?_; clear hK K
          refine WS.want rfl (fun K hK => ?_); go_simp; (try (simp only [q1, q2, q3]; (try go_simp))); refine hK _ ?_; clear hK K
          refine WS.want rfl (fun K hK => ?_); go_simp; (try (simp only [q1, q2, q3]; (try go_simp))); refine hK _ ?_; clear hK K
          refine WS.step rfl (fun K hK => ?_); go_simp; (try (simp only [q1, q2, q3]; (try go_simp))); refine hK _ ?_; clear hK K
          refine WS.step rfl (fun K hK => ?_); go_simp; (try (simp only [q1, q2, q3]; (try go_simp))); refine hK _ ?_; clear hK K
          refine WS.want rfl (fun K hK => ?_); go_simp; (try (simp only [q1, q2, q3]; (try go_simp))); refine hK _ ?_; clear hK K
          refine WS.want rfl (fun K hK => ?_); go_simp; (try (simp only [q1, q2, q3]; (try go_simp))); refine hK _ ?_; clear hK K
          refine WS.want rfl (fun K hK => ?_); go_simp; (try (simp only [q1, q2, q3]; (try go_simp))); refine hK _ ?_; clear hK K
          refine WS.want rfl (fun K hK => ?_); go_simp; (try (simp only [q1, q2, q3]; (try go_simp))); refine hK _ ?_; clear hK K
          refine WS.want rfl (fun K hK => ?_); go_simp; (try (simp only [q1, q2, q3]; (try go_simp))); refine hK _ ?_; clear hK K
          refine WS.step rfl (fun K hK => ?_); go_simp; (try (simp only [q1, q2, q3]; (try go_simp))); refine hK _ ?_; clear hK K
          refine WS.step rfl (fun K hK => ?_); go_simp; (try (simp only [q1, q2, q3]; (try go_simp))); refine hK _ ?_; clear hK K
          refine WS.want rfl (fun K hK => ?_); go_simp; (try (simp only [q1, q2, q3]; (try go_simp))); refine hK _ ?_; clear hK K
          refine WS.want rfl (fun K hK => ?_); go_simp; (try (simp only [q1, q2, q3]; (try go_simp))); refine hK _ ?_; clear hK K
          refine WS.want rfl (fun K hK => ?_); go_simp; (try (simp only [q1, q2, q3]; (try go_simp))); refine hK _ ?_; clear hK K
          refine WS.skip rfl ?_
          try simp only [Act.put, List.setIfInBounds_toArray, List.set_cons_zero, List.set_cons_succ]
          refine WS.skip rfl ?_
          try simp only [Act.put, List.setIfInBounds_toArray, List.set_cons_zero, List.set_cons_succ]
          refine WS.skip rfl ?_
          try simp only [Act.put, List.setIfInBounds_toArray, List.set_cons_zero, List.set_cons_succ]
          refine WS.skip rfl ?_
          try simp only [Act.put, List.setIfInBounds_toArray, List.set_cons_zero, List.set_cons_succ]
          refine WS.skip rfl ?_
          try simp only [Act.put, List.setIfInBounds_toArray, List.set_cons_zero, List.set_cons_succ]
          refine WS.skip rfl ?_
          try simp only [Act.put, List.setIfInBounds_toArray, List.set_cons_zero, List.set_cons_succ]
          refine WS.skip rfl ?_
          try simp only [Act.put, List.setIfInBounds_toArray, List.set_cons_zero, List.set_cons_succ]
          refine WS.skip rfl ?_
          try simp only [Act.put, List.setIfInBounds_toArray, List.set_cons_zero, List.set_cons_succ]
          refine WS.skip rfl ?_
          try simp only [Act.put, List.setIfInBounds_toArray, List.set_cons_zero, List.set_cons_succ]
          refine WS.skip rfl ?_
          try simp only [Act.put, List.setIfInBounds_toArray, List.set_cons_zero, List.set_cons_succ]
          refine WS.want rfl (fun K hK => ?_); go_simp; (try (simp only [q1, q2, q3]; (try go_simp))); refine hK _ ?_; clear hK K
          refine WS.nil ?_
          clear g1
          go_wp2
          go_roundw
          case rel => exact ⟨1, by omega, by go_num, R.out, hK.out⟩
          case measure => simp [intOf]; omega
        | succ k =>
          have g2 := (hK.cell (p := ⟨b, off + k, none⟩) (H.out.lt (by omega))).trans (H.out.at k (by omega))
          have c0 := Ch.low ho (by omega)
          obtain ⟨c1, c2, c3⟩ := c
          replace c1 : ss.getD k 0 < ss.getD (k + 1) 0 := c1
          replace hK := Lib.hid hK
          clear ho
          generalize ss.getD (k + 1) 0 = x at *
          generalize ss.getD k 0 = y at *
          have e1 : ¬ x < 0 := by omega
          have e2 : ¬ (m : Int) ≤ x := by omega
          have e3 : ¬ 65534 < x := by omega
          have q1 : decide (x < 0) = false := decide_eq_false e1
          have q2 : decide ((m : Int) ≤ x) = false := decide_eq_false e2
          have q3 : decide (65534 < x) = false := decide_eq_false e3
          have e4 : ¬ x ≤ y := by omega
          have e5 : (0 : Int) < (k : Int) + 1 := by omega
          have q4 : decide (x ≤ y) = false := decide_eq_false e4
          have q5 : decide ((0 : Int) < (k : Int) + 1) = true := decide_eq_true e5
          have q6 : (0 ≤ (k : Int) + 1) = True := eq_true (by omega)
          have d3 : (k : Int) < n := by omega
          have q7 : IntKind.i64.wrap (k : Int) = k := by rw [IntKind.wrap_i64]; omega
          clear c0 c1 c2 c3
          go_wp2_with (fail)
          refine WS.start 35 (by kernel_rfl) (by kernel_rfl) ?_
          intro w2 hw2
          replace g1 := (show wr.drew.cell? _ = some _ from g1)
          rw [← hw2] at g1
          replace g2 := (show wr.drew.cell? _ = some _ from g2)
          rw [← hw2] at g2
          replace hK := Lib.hid (show Kept w w2 by rw [hw2]; exact hK.out.drew)
          clear hw2
          simp only [List.take_succ_cons, List.take_zero, List.drop_succ_cons, List.drop_zero]
          refine WS.step rfl (fun K hK => ?_); go_simp; (try (simp only [q1, q2, q3, q4, q5, q6, q7, if_true]; (try go_simp))); refine hK _ ?_; clear hK K
          refine WS.step rfl (fun K hK => ?_); go_simp; (try (simp only [q1, q2, q3, q4, q5, q6, q7, if_true]; (try go_simp))); refine hK _ ?_; clear hK K
          refine WS.step rfl (fun K hK => ?_); go_simp; (try (simp only [q1, q2, q3, q4, q5, q6, q7, if_true]; (try go_simp))); refine hK _ ?_; clear hK K
          refine WS.step rfl (fun K hK => ?_); go_simp; (try (simp only [q1, q2, q3, q4, q5, q6, q7, if_true]; (try go_simp))); refine hK _ ?_; clear hK K
          refine WS.step rfl (fun K hK => ?_); go_simp; (try (simp only [q1, q2, q3, q4, q5, q6, q7, if_true]; (try go_simp))); refine hK _ ?_; clear hK K
          refine WS.step rfl (fun K hK => ?_); go_simp; (try (simp only [q1, q2, q3, q4, q5, q6, q7, if_true]; (try go_simp))); refine hK _ ?_; clear hK K
          refine WS.want rfl (fun K hK => ?_); go_simp; (try (simp only [q1, q2, q3, q4, q5, q6, q7, if_true]; (try go_simp))); refine hK _ ?_; clear hK K
          refine WS.want rfl (fun K hK => ?_); go_simp; (try (simp only [q1, q2, q3, q4, q5, q6, q7, if_true]; (try go_simp))); refine hK _ ?_; clear hK K
          refine WS.want rfl (fun K hK => ?_); go_simp; (try (simp only [q1, q2, q3, q4, q5, q6, q7, if_true]; (try go_simp))); refine hK _ ?_; clear hK K
          refine WS.want rfl (fun K hK => ?_); go_simp; (try (simp only [q1, q2, q3, q4, q5, q6, q7, if_true]; (try go_simp))); refine hK _ ?_; clear hK K
          refine WS.want rfl (fun K hK => ?_); go_simp; (try (simp only [q1, q2, q3, q4, q5, q6, q7, if_true]; (try go_simp))); refine hK _ ?_; clear hK K
          refine WS.want rfl (fun K hK => ?_); go_simp; (try (simp only [q1, q2, q3, q4, q5, q6, q7, if_true]; (try go_simp))); refine hK _ ?_; clear hK K
          refine WS.step rfl (fun K hK => ?_); go_simp; (try (simp only [q1, q2, q3, q4, q5, q6, q7, if_true]; (try go_simp))); refine hK _ ?_; clear hK K
          refine WS.step rfl (fun K hK => ?_); go_simp; (try (simp only [q1, q2, q3, q4, q5, q6, q7, if_true]; (try go_simp))); refine hK _ ?_; clear hK K
          refine WS.want rfl (fun K hK => ?_); go_simp; (try (simp only [q1, q2, q3, q4, q5, q6, q7, if_true]; (try go_simp))); refine hK _ ?_; clear hK K
          refine WS.want rfl (fun K hK => ?_); go_simp; (try (simp only [q1, q2, q3, q4, q5, q6, q7, if_true]; (try go_simp))); refine hK _ ?_; clear hK K
          refine WS.want rfl (fun K hK => ?_); go_simp; (try (simp only [q1, q2, q3, q4, q5, q6, q7, if_true]; (try go_simp))); refine hK _ ?_; clear hK K
          refine WS.want rfl (fun K hK => ?_); go_simp; (try (simp only [q1, q2, q3, q4, q5, q6, q7, if_true]; (try go_simp))); refine hK _ ?_; clear hK K
          refine WS.want rfl (fun K hK => ?_); go_simp; (try (simp only [q1, q2, q3, q4, q5, q6, q7, if_true]; (try go_simp))); refine hK _ ?_; clear hK K
          refine WS.step rfl (fun K hK => ?_); go_simp; (try (simp only [q1, q2, q3, q4, q5, q6, q7, if_true]; (try go_simp))); refine hK _ ?_; clear hK K
          refine WS.step rfl (fun K hK => ?_); go_simp; (try (simp only [q1, q2, q3, q4, q5, q6, q7, if_true]; (try go_simp))); refine hK _ ?_; clear hK K
          refine WS.want rfl (fun K hK => ?_); go_simp; (try (simp only [q1, q2, q3, q4, q5, q6, q7, if_true]; (try go_simp))); refine hK _ ?_; clear hK K
          refine WS.want rfl (fun K hK => ?_); go_simp; (try (simp only [q1, q2, q3, q4, q5, q6, q7, if_true]; (try go_simp))); refine hK _ ?_; clear hK K
          refine WS.want rfl (fun K hK => ?_); go_simp; (try (simp only [q1, q2, q3, q4, q5, q6, q7, if_true]; (try go_simp))); refine hK _ ?_; clear hK K
          refine WS.want rfl (fun K hK => ?_); go_simp; (try (simp only [q1, q2, q3, q4, q5, q6, q7, if_true]; (try go_simp))); refine hK _ ?_; clear hK K
          refine WS.want rfl (fun K hK => ?_); go_simp; (try (simp only [q1, q2, q3, q4, q5, q6, q7, if_true]; (try go_simp))); refine hK _ ?_; clear hK K
          refine WS.want rfl (fun K hK => ?_); go_simp; (try (simp only [q1, q2, q3, q4, q5, q6, q7, if_true]; (try go_simp))); refine hK _ ?_; clear hK K
          refine WS.want rfl (fun K hK => ?_); go_simp; (try (simp only [q1, q2, q3, q4, q5, q6, q7, if_true]; (try go_simp))); refine hK _ ?_; clear hK K
          refine WS.want rfl (fun K hK => ?_); go_simp; (try (simp only [q1, q2, q3, q4, q5, q6, q7, if_true]; (try go_simp))); refine hK _ ?_; clear hK K
          refine WS.want rfl (fun K hK => ?_); go_simp; (try (simp only [q1, q2, q3, q4, q5, q6, q7, if_true]; (try go_simp))); refine hK _ ?_; clear hK K
          refine WS.want rfl (fun K hK => ?_); go_simp; (try (simp only [q1, q2, q3, q4, q5, q6, q7, if_true]; (try go_simp))); refine hK _ ?_; clear hK K
          refine WS.want rfl (fun K hK => ?_); go_simp; (try (simp only [q1, q2, q3, q4, q5, q6, q7, if_true]; (try go_simp))); refine hK _ ?_; clear hK K
          refine WS.want rfl (fun K hK => ?_); go_simp; (try (simp only [q1, q2, q3, q4, q5, q6, q7, if_true]; (try go_simp))); refine hK _ ?_; clear hK K
          refine WS.want rfl (fun K hK => ?_); go_simp; (try (simp only [q1, q2, q3, q4, q5, q6, q7, if_true]; (try go_simp))); refine hK _ ?_; clear hK K
          refine WS.want rfl (fun K hK => ?_); go_simp; (try (simp only [q1, q2, q3, q4, q5, q6, q7, if_true]; (try go_simp))); refine hK _ ?_; clear hK K
          refine WS.nil ?_
          clear g1 g2 q7
          go_wp2
          go_roundw
          case rel => exact ⟨k + 1 + 1, by omega, by go_num, R.out, hK.out⟩
          case measure => simp [intOf]; omega
      · have R := Lib.hid (show ¬ Ch.Rises m ss from fun r => c (r k (by omega)))
        unfold Ch.OkAt at c
        replace hK := Lib.hid hK
        by_cases e1 : ss.getD k 0 < 0
        · clear c ho
          generalize ss.getD k 0 = x at *
          have q1 : decide (x < 0) = true := decide_eq_true e1
          go_wp2_with (fail)
          refine WS.start 35 (by kernel_rfl) (by kernel_rfl) ?_
          intro w2 hw2
          replace g1 := (show wr.drew.cell? _ = some _ from g1)
          rw [← hw2] at g1
          replace hK := Lib.hid (show Kept w w2 by rw [hw2]; exact hK.out.drew)
          clear hw2
          simp only [List.take_succ_cons, List.take_zero, List.drop_succ_cons, List.drop_zero]
          refine WS.step rfl (fun K hK => ?_); go_simp; (try (simp only [q1]; (try go_simp))); refine hK _ ?_; clear hK K
          refine WS.step rfl (fun K hK => ?_); go_simp; (try (simp only [q1]; (try go_simp))); refine hK _ ?_; clear hK K
          refine WS.step rfl (fun K hK => ?_); go_simp; (try (simp only [q1]; (try go_simp))); refine hK _ ?_; clear hK K
          refine WS.step rfl (fun K hK => ?_); go_simp; (try (simp only [q1]; (try go_simp))); refine hK _ ?_; clear hK K
          refine WS.step rfl (fun K hK => ?_); go_simp; (try (simp only [q1]; (try go_simp))); refine hK _ ?_; clear hK K
          refine WS.step rfl (fun K hK => ?_); go_simp; (try (simp only [q1]; (try go_simp))); refine hK _ ?_; clear hK K
          refine WS.skip rfl ?_
          try simp only [Act.put, List.setIfInBounds_toArray, List.set_cons_zero, List.set_cons_succ]
          refine WS.skip rfl ?_
          try simp only [Act.put, List.setIfInBounds_toArray, List.set_cons_zero, List.set_cons_succ]
          refine WS.skip rfl ?_
          try simp only [Act.put, List.setIfInBounds_toArray, List.set_cons_zero, List.set_cons_succ]
          refine WS.skip rfl ?_
          try simp only [Act.put, List.setIfInBounds_toArray, List.set_cons_zero, List.set_cons_succ]
          refine WS.skip rfl ?_
          try simp only [Act.put, List.setIfInBounds_toArray, List.set_cons_zero, List.set_cons_succ]
          refine WS.skip rfl ?_
          try simp only [Act.put, List.setIfInBounds_toArray, List.set_cons_zero, List.set_cons_succ]
          refine WS.step rfl (fun K hK => ?_); go_simp; (try (simp only [q1]; (try go_simp))); refine hK _ ?_; clear hK K
          refine WS.step rfl (fun K hK => ?_); go_simp; (try (simp only [q1]; (try go_simp))); refine hK _ ?_; clear hK K
          refine WS.skip rfl ?_
          try simp only [Act.put, List.setIfInBounds_toArray, List.set_cons_zero, List.set_cons_succ]
          refine WS.skip rfl ?_
          try simp only [Act.put, List.setIfInBounds_toArray, List.set_cons_zero, List.set_cons_succ]
          refine WS.skip rfl ?_
          try simp only [Act.put, List.setIfInBounds_toArray, List.set_cons_zero, List.set_cons_succ]
          refine WS.skip rfl ?_
          try simp only [Act.put, List.setIfInBounds_toArray, List.set_cons_zero, List.set_cons_succ]
          refine WS.skip rfl ?_
          try simp only [Act.put, List.setIfInBounds_toArray, List.set_cons_zero, List.set_cons_succ]
          refine WS.step rfl (fun K hK => ?_); go_simp; (try (simp only [q1]; (try go_simp))); refine hK _ ?_; clear hK K
          refine WS.step rfl (fun K hK => ?_); go_simp; (try (simp only [q1]; (try go_simp))); refine hK _ ?_; clear hK K
          refine WS.skip rfl ?_
          try simp only [Act.put, List.setIfInBounds_toArray, List.set_cons_zero, List.set_cons_succ]
          refine WS.skip rfl ?_
          try simp only [Act.put, List.setIfInBounds_toArray, List.set_cons_zero, List.set_cons_succ]
          refine WS.skip rfl ?_
          try simp only [Act.put, List.setIfInBounds_toArray, List.set_cons_zero, List.set_cons_succ]
          refine WS.skip rfl ?_
          try simp only [Act.put, List.setIfInBounds_toArray, List.set_cons_zero, List.set_cons_succ]
          refine WS.skip rfl ?_
          try simp only [Act.put, List.setIfInBounds_toArray, List.set_cons_zero, List.set_cons_succ]
          refine WS.skip rfl ?_
          try simp only [Act.put, List.setIfInBounds_toArray, List.set_cons_zero, List.set_cons_succ]
          refine WS.skip rfl ?_
          try simp only [Act.put, List.setIfInBounds_toArray, List.set_cons_zero, List.set_cons_succ]
          refine WS.skip rfl ?_
          try simp only [Act.put, List.setIfInBounds_toArray, List.set_cons_zero, List.set_cons_succ]
          refine WS.skip rfl ?_
          try simp only [Act.put, List.setIfInBounds_toArray, List.set_cons_zero, List.set_cons_succ]
          refine WS.skip rfl ?_
          try simp only [Act.put, List.setIfInBounds_toArray, List.set_cons_zero, List.set_cons_succ]
          refine WS.skip rfl ?_
          try simp only [Act.put, List.setIfInBounds_toArray, List.set_cons_zero, List.set_cons_succ]
          refine WS.skip rfl ?_
          try simp only [Act.put, List.setIfInBounds_toArray, List.set_cons_zero, List.set_cons_succ]
          refine WS.skip rfl ?_
          try simp only [Act.put, List.setIfInBounds_toArray, List.set_cons_zero, List.set_cons_succ]
          refine WS.skip rfl ?_
          try simp only [Act.put, List.setIfInBounds_toArray, List.set_cons_zero, List.set_cons_succ]
          refine WS.nil ?_
          clear g1
          go_wp2
          go_ret
          exact ⟨retB (decide_eq_false R.out).symm, hK.out.below⟩
        · by_cases e2 : (m : Int) ≤ ss.getD k 0
          · clear c ho
            generalize ss.getD k 0 = x at *
            have q1 : decide (x < 0) = false := decide_eq_false e1
            have q2 : decide ((m : Int) ≤ x) = true := decide_eq_true e2
            go_wp2_with (fail)
            refine WS.start 35 (by kernel_rfl) (by kernel_rfl) ?_
            intro w2 hw2
            replace g1 := (show wr.drew.cell? _ = some _ from g1)
            rw [← hw2] at g1
            replace hK := Lib.hid (show Kept w w2 by rw [hw2]; exact hK.out.drew)
            clear hw2
            simp only [List.take_succ_cons, List.take_zero, List.drop_succ_cons, List.drop_zero]
            refine WS.step rfl (fun K hK => ?_); go_simp; (try (simp only [q1, q2]; (try go_simp))); refine hK _ ?_; clear hK K
            refine WS.step rfl (fun K hK => ?_); go_simp; (try (simp only [q1, q2]; (try go_simp))); refine hK _ ?_; clear hK K
            refine WS.step rfl (fun K hK => ?_); go_simp; (try (simp only [q1, q2]; (try go_simp))); refine hK _ ?_; clear hK K
            refine WS.step rfl (fun K hK => ?_); go_simp; (try (simp only [q1, q2]; (try go_simp))); refine hK _ ?_; clear hK K
            refine WS.step rfl (fun K hK => ?_); go_simp; (try (simp only [q1, q2]; (try go_simp))); refine hK _ ?_; clear hK K
            refine WS.step rfl (fun K hK => ?_); go_simp; (try (simp only [q1, q2]; (try go_simp))); refine hK _ ?_; clear hK K
            refine WS.want rfl (fun K hK => ?_); go_simp; (try (simp only [q1, q2]; (try go_simp))); refine hK _ ?_; clear hK K
            refine WS.want rfl (fun K hK => ?_); go_simp; (try (simp only [q1, q2]; (try go_simp))); refine hK _ ?_; clear hK K
            refine WS.want rfl (fun K hK => ?_); go_simp; (try (simp only [q1, q2]; (try go_simp))); refine hK _ ?_; clear hK K
            refine WS.want rfl (fun K hK => ?_); go_simp; (try (simp only [q1, q2]; (try go_simp))); refine hK _ ?_; clear hK K
            refine WS.want rfl (fun K hK => ?_); go_simp; (try (simp only [q1, q2]; (try go_simp))); refine hK _ ?_; clear hK K
            refine WS.want rfl (fun K hK => ?_); go_simp; (try (simp only [q1, q2]; (try go_simp))); refine hK _ ?_; clear hK K
            refine WS.step rfl (fun K hK => ?_); go_simp; (try (simp only [q1, q2]; (try go_simp))); refine hK _ ?_; clear hK K
            refine WS.step rfl (fun K hK => ?_); go_simp; (try (simp only [q1, q2]; (try go_simp))); refine hK _ ?_; clear hK K
            refine WS.skip rfl ?_
            try simp only [Act.put, List.setIfInBounds_toArray, List.set_cons_zero, List.set_cons_succ]
            refine WS.skip rfl ?_
            try simp only [Act.put, List.setIfInBounds_toArray, List.set_cons_zero, List.set_cons_succ]
            refine WS.skip rfl ?_
            try simp only [Act.put, List.setIfInBounds_toArray, List.set_cons_zero, List.set_cons_succ]
            refine WS.skip rfl ?_
            try simp only [Act.put, List.setIfInBounds_toArray, List.set_cons_zero, List.set_cons_succ]
            refine WS.skip rfl ?_
            try simp only [Act.put, List.setIfInBounds_toArray, List.set_cons_zero, List.set_cons_succ]
            refine WS.step rfl (fun K hK => ?_); go_simp; (try (simp only [q1, q2]; (try go_simp))); refine hK _ ?_; clear hK K
            refine WS.step rfl (fun K hK => ?_); go_simp; (try (simp only [q1, q2]; (try go_simp))); refine hK _ ?_; clear hK K
            refine WS.skip rfl ?_
            try simp only [Act.put, List.setIfInBounds_toArray, List.set_cons_zero, List.set_cons_succ]
            refine WS.skip rfl ?_
            try simp only [Act.put, List.setIfInBounds_toArray, List.set_cons_zero, List.set_cons_succ]
            refine WS.skip rfl ?_
            try simp only [Act.put, List.setIfInBounds_toArray, List.set_cons_zero, List.set_cons_succ]
            refine WS.skip rfl ?_
            try simp only [Act.put, List.setIfInBounds_toArray, List.set_cons_zero, List.set_cons_succ]
            refine WS.skip rfl ?_
            try simp only [Act.put, List.setIfInBounds_toArray, List.set_cons_zero, List.set_cons_succ]
            refine WS.skip rfl ?_
            try simp only [Act.put, List.setIfInBounds_toArray, List.set_cons_zero, List.set_cons_succ]
            refine WS.skip rfl ?_
            try simp only [Act.put, List.setIfInBounds_toArray, List.set_cons_zero, List.set_cons_succ]
            refine WS.skip rfl ?_
            try simp only [Act.put, List.setIfInBounds_toArray, List.set_cons_zero, List.set_cons_succ]
            refine WS.skip rfl ?_
            try simp only [Act.put, List.setIfInBounds_toArray, List.set_cons_zero, List.set_cons_succ]
            refine WS.skip rfl ?_
            try simp only [Act.put, List.setIfInBounds_toArray, List.set_cons_zero, List.set_cons_succ]
            refine WS.skip rfl ?_
            try simp only [Act.put, List.setIfInBounds_toArray, List.set_cons_zero, List.set_cons_succ]
            refine WS.skip rfl ?_
            try simp only [Act.put, List.setIfInBounds_toArray, List.set_cons_zero, List.set_cons_succ]
            refine WS.skip rfl ?_
            try simp only [Act.put, List.setIfInBounds_toArray, List.set_cons_zero, List.set_cons_succ]
            refine WS.skip rfl ?_
            try simp only [Act.put, List.setIfInBounds_toArray, List.set_cons_zero, List.set_cons_succ]
            refine WS.nil ?_
            clear g1
            go_wp2
            go_ret
            exact ⟨retB (decide_eq_false R.out).symm, hK.out.below⟩
          · by_cases e3 : 65534 < ss.getD k 0
            · clear c ho
              generalize ss.getD k 0 = x at *
              have q1 : decide (x < 0) = false := decide_eq_false e1
              have q2 : decide ((m : Int) ≤ x) = false := decide_eq_false e2
              have q3 : decide (65534 < x) = true := decide_eq_true e3
              go_wp2_with (fail)
              refine WS.start 35 (by kernel_rfl) (by kernel_rfl) ?_
              intro w2 hw2
              replace g1 := (show wr.drew.cell? _ = some _ from g1)
              rw [← hw2] at g1
              replace hK := Lib.hid (show Kept w w2 by rw [hw2]; exact hK.out.drew)
              clear hw2
              simp only [List.take_succ_cons, List.take_zero, List.drop_succ_cons, List.drop_zero]
              refine WS.step rfl (fun K hK => ?_); go_simp; (try (simp only [q1, q2, q3]; (try go_simp))); refine hK _ ?_; clear hK K
              refine WS.step rfl (fun K hK => ?_); go_simp; (try (simp only [q1, q2, q3]; (try go_simp))); refine hK _ ?_; clear hK K
              refine WS.step rfl (fun K hK => ?_); go_simp; (try (simp only [q1, q2, q3]; (try go_simp))); refine hK _ ?_; clear hK K
              refine WS.step rfl (fun K hK => ?_); go_simp; (try (simp only [q1, q2, q3]; (try go_simp))); refine hK _ ?_; clear hK K
              refine WS.step rfl (fun K hK => ?_); go_simp; (try (simp only [q1, q2, q3]; (try go_simp))); refine hK _ ?_; clear hK K
              refine WS.step rfl (fun K hK => ?_); go_simp; (try (simp only [q1, q2, q3]; (try go_simp))); refine hK _ ?_; clear hK K
              refine WS.want rfl (fun K hK => ?_); go_simp; (try (simp only [q1, q2, q3]; (try go_simp))); refine hK _ ?_; clear hK K
              refine WS.want rfl (fun K hK => ?_); go_simp; (try (simp only [q1, q2, q3]; (try go_simp))); refine hK _ ?_; clear hK K
              refine WS.want rfl (fun K hK => ?_); go_simp; (try (simp only [q1, q2, q3]; (try go_simp))); refine hK _ ?_; clear hK K
              refine WS.want rfl (fun K hK => ?_); go_simp; (try (simp only [q1, q2, q3]; (try go_simp))); refine hK _ ?_; clear hK K
              refine WS.want rfl (fun K hK => ?_); go_simp; (try (simp only [q1, q2, q3]; (try go_simp))); refine hK _ ?_; clear hK K
              refine WS.want rfl (fun K hK => ?_); go_simp; (try (simp only [q1, q2, q3]; (try go_simp))); refine hK _ ?_; clear hK K
              refine WS.step rfl (fun K hK => ?_); go_simp; (try (simp only [q1, q2, q3]; (try go_simp))); refine hK _ ?_; clear hK K
              refine WS.step rfl (fun K hK => ?_); go_simp; (try (simp only [q1, q2, q3]; (try go_simp))); refine hK _ ?_; clear hK K
              refine WS.want rfl (fun K hK => ?_); go_simp; (try (simp only [q1, q2, q3]; (try go_simp))); refine hK _ ?_; clear hK K
              refine WS.want rfl (fun K hK => ?_); go_simp; (try (simp only [q1, q2, q3]; (try go_simp))); refine hK _ ?_; clear hK K
              refine WS.want rfl (fun K hK => ?_); go_simp; (try (simp only [q1, q2, q3]; (try go_simp))); refine hK _ ?_; clear hK K
              refine WS.want rfl (fun K hK => ?_); go_simp; (try (simp only [q1, q2, q3]; (try go_simp))); refine hK _ ?_; clear hK K
              refine WS.want rfl (fun K hK => ?_); go_simp; (try (simp only [q1, q2, q3]; (try go_simp))); refine hK _ ?_; clear hK K
              refine WS.step rfl (fun K hK => ?_); go_simp; (try (simp only [q1, q2, q3]; (try go_simp))); refine hK _ ?_; clear hK K
              refine WS.step rfl (fun K hK => ?_); go_simp; (try (simp only [q1, q2, q3]; (try go_simp))); refine hK _ ?_; clear hK K
              refine WS.skip rfl ?_
              try simp only [Act.put, List.setIfInBounds_toArray, List.set_cons_zero, List.set_cons_succ]
              refine WS.skip rfl ?_
              try simp only [Act.put, List.setIfInBounds_toArray, List.set_cons_zero, List.set_cons_succ]
              refine WS.skip rfl ?_
              try simp only [Act.put, List.setIfInBounds_toArray, List.set_cons_zero, List.set_cons_succ]
              refine WS.skip rfl ?_
              try simp only [Act.put, List.setIfInBounds_toArray, List.set_cons_zero, List.set_cons_succ]
              refine WS.skip rfl ?_
              try simp only [Act.put, List.setIfInBounds_toArray, List.set_cons_zero, List.set_cons_succ]
              refine WS.skip rfl ?_
              try simp only [Act.put, List.setIfInBounds_toArray, List.set_cons_zero, List.set_cons_succ]
              refine WS.skip rfl ?_
              try simp only [Act.put, List.setIfInBounds_toArray, List.set_cons_zero, List.set_cons_succ]
              refine WS.skip rfl ?_
              try simp only [Act.put, List.setIfInBounds_toArray, List.set_cons_zero, List.set_cons_succ]
              refine WS.skip rfl ?_
              try simp only [Act.put, List.setIfInBounds_toArray, List.set_cons_zero, List.set_cons_succ]
              refine WS.skip rfl ?_
              try simp only [Act.put, List.setIfInBounds_toArray, List.set_cons_zero, List.set_cons_succ]
              refine WS.skip rfl ?_
              try simp only [Act.put, List.setIfInBounds_toArray, List.set_cons_zero, List.set_cons_succ]
              refine WS.skip rfl ?_
              try simp only [Act.put, List.setIfInBounds_toArray, List.set_cons_zero, List.set_cons_succ]
              refine WS.skip rfl ?_
              try simp only [Act.put, List.setIfInBounds_toArray, List.set_cons_zero, List.set_cons_succ]
              refine WS.skip rfl ?_
              try simp only [Act.put, List.setIfInBounds_toArray, List.set_cons_zero, List.set_cons_succ]
              refine WS.nil ?_
              clear g1
              go_wp2
              go_ret
              exact ⟨retB (decide_eq_false R.out).symm, hK.out.below⟩
            · cases k with
              | zero => exact absurd ⟨by show -1 < _; omega, by omega, by omega⟩ c
              | succ k =>
                have g2 := (hK.out.cell (p := ⟨b, off + k, none⟩) (H.out.lt (by omega))).trans (H.out.at k (by omega))
                have e4 : ss.getD (k + 1) 0 ≤ ss.getD k 0 := by
                  rcases Int.lt_or_le (ss.getD k 0) (ss.getD (k + 1) 0) with q | q
                  · exact absurd ⟨q, by omega, by omega⟩ c
                  · exact q
                clear c ho
                generalize ss.getD (k + 1) 0 = x at *
                generalize ss.getD k 0 = y at *
                have e5 : (0 : Int) < (k : Int) + 1 := by omega
                have q1 : decide (x < 0) = false := decide_eq_false e1
                have q2 : decide ((m : Int) ≤ x) = false := decide_eq_false e2
                have q3 : decide (65534 < x) = false := decide_eq_false e3
                have q4 : decide (x ≤ y) = true := decide_eq_true e4
                have q5 : decide ((0 : Int) < (k : Int) + 1) = true := decide_eq_true e5
                have q6 : (0 ≤ (k : Int) + 1) = True := eq_true (by omega)
                have q7 : IntKind.i64.wrap (k : Int) = k := by rw [IntKind.wrap_i64]; omega
                have d3 : (k : Int) < n := by omega
                go_wp2_with (fail)
                refine WS.start 35 (by kernel_rfl) (by kernel_rfl) ?_
                intro w2 hw2
                replace g1 := (show wr.drew.cell? _ = some _ from g1)
                rw [← hw2] at g1
                replace g2 := (show wr.drew.cell? _ = some _ from g2)
                rw [← hw2] at g2
                replace hK := Lib.hid (show Kept w w2 by rw [hw2]; exact hK.out.drew)
                clear hw2
                simp only [List.take_succ_cons, List.take_zero, List.drop_succ_cons, List.drop_zero]
                refine WS.step rfl (fun K hK => ?_); go_simp; (try (simp only [q1, q2, q3, q4, q5, q6, q7, if_true]; (try go_simp))); refine hK _ ?_; clear hK K
                refine WS.step rfl (fun K hK => ?_); go_simp; (try (simp only [q1, q2, q3, q4, q5, q6, q7, if_true]; (try go_simp))); refine hK _ ?_; clear hK K
                refine WS.step rfl (fun K hK => ?_); go_simp; (try (simp only [q1, q2, q3, q4, q5, q6, q7, if_true]; (try go_simp))); refine hK _ ?_; clear hK K
                refine WS.step rfl (fun K hK => ?_); go_simp; (try (simp only [q1, q2, q3, q4, q5, q6, q7, if_true]; (try go_simp))); refine hK _ ?_; clear hK K
                refine WS.step rfl (fun K hK => ?_); go_simp; (try (simp only [q1, q2, q3, q4, q5, q6, q7, if_true]; (try go_simp))); refine hK _ ?_; clear hK K
                refine WS.step rfl (fun K hK => ?_); go_simp; (try (simp only [q1, q2, q3, q4, q5, q6, q7, if_true]; (try go_simp))); refine hK _ ?_; clear hK K
                refine WS.want rfl (fun K hK => ?_); go_simp; (try (simp only [q1, q2, q3, q4, q5, q6, q7, if_true]; (try go_simp))); refine hK _ ?_; clear hK K
                refine WS.want rfl (fun K hK => ?_); go_simp; (try (simp only [q1, q2, q3, q4, q5, q6, q7, if_true]; (try go_simp))); refine hK _ ?_; clear hK K
                refine WS.want rfl (fun K hK => ?_); go_simp; (try (simp only [q1, q2, q3, q4, q5, q6, q7, if_true]; (try go_simp))); refine hK _ ?_; clear hK K
                refine WS.want rfl (fun K hK => ?_); go_simp; (try (simp only [q1, q2, q3, q4, q5, q6, q7, if_true]; (try go_simp))); refine hK _ ?_; clear hK K
                refine WS.want rfl (fun K hK => ?_); go_simp; (try (simp only [q1, q2, q3, q4, q5, q6, q7, if_true]; (try go_simp))); refine hK _ ?_; clear hK K
                refine WS.want rfl (fun K hK => ?_); go_simp; (try (simp only [q1, q2, q3, q4, q5, q6, q7, if_true]; (try go_simp))); refine hK _ ?_; clear hK K
                refine WS.step rfl (fun K hK => ?_); go_simp; (try (simp only [q1, q2, q3, q4, q5, q6, q7, if_true]; (try go_simp))); refine hK _ ?_; clear hK K
                refine WS.step rfl (fun K hK => ?_); go_simp; (try (simp only [q1, q2, q3, q4, q5, q6, q7, if_true]; (try go_simp))); refine hK _ ?_; clear hK K
                refine WS.want rfl (fun K hK => ?_); go_simp; (try (simp only [q1, q2, q3, q4, q5, q6, q7, if_true]; (try go_simp))); refine hK _ ?_; clear hK K
                refine WS.want rfl (fun K hK => ?_); go_simp; (try (simp only [q1, q2, q3, q4, q5, q6, q7, if_true]; (try go_simp))); refine hK _ ?_; clear hK K
                refine WS.want rfl (fun K hK => ?_); go_simp; (try (simp only [q1, q2, q3, q4, q5, q6, q7, if_true]; (try go_simp))); refine hK _ ?_; clear hK K
                refine WS.want rfl (fun K hK => ?_); go_simp; (try (simp only [q1, q2, q3, q4, q5, q6, q7, if_true]; (try go_simp))); refine hK _ ?_; clear hK K
                refine WS.want rfl (fun K hK => ?_); go_simp; (try (simp only [q1, q2, q3, q4, q5, q6, q7, if_true]; (try go_simp))); refine hK _ ?_; clear hK K
                refine WS.step rfl (fun K hK => ?_); go_simp; (try (simp only [q1, q2, q3, q4, q5, q6, q7, if_true]; (try go_simp))); refine hK _ ?_; clear hK K
                refine WS.step rfl (fun K hK => ?_); go_simp; (try (simp only [q1, q2, q3, q4, q5, q6, q7, if_true]; (try go_simp))); refine hK _ ?_; clear hK K
                refine WS.want rfl (fun K hK => ?_); go_simp; (try (simp only [q1, q2, q3, q4, q5, q6, q7, if_true]; (try go_simp))); refine hK _ ?_; clear hK K
                refine WS.want rfl (fun K hK => ?_); go_simp; (try (simp only [q1, q2, q3, q4, q5, q6, q7, if_true]; (try go_simp))); refine hK _ ?_; clear hK K
                refine WS.want rfl (fun K hK => ?_); go_simp; (try (simp only [q1, q2, q3, q4, q5, q6, q7, if_true]; (try go_simp))); refine hK _ ?_; clear hK K
                refine WS.want rfl (fun K hK => ?_); go_simp; (try (simp only [q1, q2, q3, q4, q5, q6, q7, if_true]; (try go_simp))); refine hK _ ?_; clear hK K
                refine WS.want rfl (fun K hK => ?_); go_simp; (try (simp only [q1, q2, q3, q4, q5, q6, q7, if_true]; (try go_simp))); refine hK _ ?_; clear hK K
                refine WS.want rfl (fun K hK => ?_); go_simp; (try (simp only [q1, q2, q3, q4, q5, q6, q7, if_true]; (try go_simp))); refine hK _ ?_; clear hK K
                refine WS.want rfl (fun K hK => ?_); go_simp; (try (simp only [q1, q2, q3, q4, q5, q6, q7, if_true]; (try go_simp))); refine hK _ ?_; clear hK K
                refine WS.want rfl (fun K hK => ?_); go_simp; (try (simp only [q1, q2, q3, q4, q5, q6, q7, if_true]; (try go_simp))); refine hK _ ?_; clear hK K
                refine WS.want rfl (fun K hK => ?_); go_simp; (try (simp only [q1, q2, q3, q4, q5, q6, q7, if_true]; (try go_simp))); refine hK _ ?_; clear hK K
                refine WS.want rfl (fun K hK => ?_); go_simp; (try (simp only [q1, q2, q3, q4, q5, q6, q7, if_true]; (try go_simp))); refine hK _ ?_; clear hK K
                refine WS.want rfl (fun K hK => ?_); go_simp; (try (simp only [q1, q2, q3, q4, q5, q6, q7, if_true]; (try go_simp))); refine hK _ ?_; clear hK K
                refine WS.want rfl (fun K hK => ?_); go_simp; (try (simp only [q1, q2, q3, q4, q5, q6, q7, if_true]; (try go_simp))); refine hK _ ?_; clear hK K
                refine WS.want rfl (fun K hK => ?_); go_simp; (try (simp only [q1, q2, q3, q4, q5, q6, q7, if_true]; (try go_simp))); refine hK _ ?_; clear hK K
                refine WS.want rfl (fun K hK => ?_); go_simp; (try (simp only [q1, q2, q3, q4, q5, q6, q7, if_true]; (try go_simp))); refine hK _ ?_; clear hK K
                refine WS.nil ?_
                clear g1 g2 q7
                go_wp2
                go_ret
                exact ⟨retB (decide_eq_false R.out).symm, hK.out.below⟩
    · have R := Lib.hid (show Ch.Rises m ss from fun j hj => ho j (by omega))
      have hkn : ¬ (k : Int) < n := by omega
      replace hK := Lib.hid hK
      clear ho
      go_wp2
      go_ret
      exact ⟨retB (decide_eq_true R.out).symm, hK.out.below⟩
end Go.Proofs.Ytpfgmfiegnkocaa
