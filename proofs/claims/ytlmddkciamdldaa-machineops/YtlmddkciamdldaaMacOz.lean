/-
  The law MachineOps.
-/
import Derived.Test.YtlmddkciamdldaaMacO6
import Derived.Test.YtlmddkciamdldaaMacO7
import Derived.Test.YtlmddkciamdldaaMacO57
namespace Go.Proofs.Ytlmddkciamdldaa
open Go.RowKit
set_option linter.unusedVariables false
set_option linter.unusedSimpArgs false
set_option maxRecDepth 100000
theorem X.brP_lit (s : A.Regs) (y k op c i : Int) (ht : A.taken s op = true) : X.brP s y k op c i = if k = 6 then s.r c.toNat else (y + 4 * i) % 4294967296 := by unfold X.brP; rw [if_pos ht]
theorem X.brP_not (s : A.Regs) (y k op c i : Int) (ht : A.taken s op = false) : X.brP s y k op c i = y := by unfold X.brP; rw [if_neg (by rw [ht]; simp)]
theorem X.brS_lit (s : A.Regs) (y op : Int) (u : Bool) (ht : A.taken s op = true) : X.brS s y op u = if u = true then A.set s 15 y else s := by
  unfold X.brS
  cases u
  · rw [if_neg (by simp), if_neg (by simp)]
  · rw [if_pos ⟨ht, rfl⟩, if_pos rfl]
theorem X.brS_not (s : A.Regs) (y op : Int) (u : Bool) (ht : A.taken s op = false) : X.brS s y op u = s := by unfold X.brS; rw [if_neg (by rw [ht]; simp)]
/-- the machine of MachineOps at its place -/
theorem X.ops_at (f : Nat) (f16 : f < 16) (v : Int) : M.wt (M.placed (List.replicate 16 0) f [v]) (4 * (f : Int)) = 0 ∧ M.word (M.placed (List.replicate 16 0) f [v]) (4 * (f : Int)) = v := by
  refine X.at_word _ f v _ ?_ rfl
  rw [M.placed_in _ _ _ _ (by simp; omega) (Nat.le_refl _) (by simp)]
  simp
theorem X.ops_br (s : A.Regs) (f : Nat) (f16 : f < 16) (k op c i : Int) (u : Bool) (hm : I.May ⟨k, op, 0, 0, c, i, u⟩) (hk : k = 6 ∨ k = 7) :
    X.step ⟨M.placed (List.replicate 16 0) f [I.word ⟨k, op, 0, 0, c, i, u⟩], s, 4 * (f : Int), 0, [], []⟩ = ⟨M.placed (List.replicate 16 0) f [I.word ⟨k, op, 0, 0, c, i, u⟩], X.brS s (4 * (f : Int) + 4) op u, X.brP s (4 * (f : Int) + 4) k op c i, 0, [], []⟩ := by
  have h := X.ops_at f f16 (I.word ⟨k, op, 0, 0, c, i, u⟩)
  rw [X.step_br _ k op c i u rfl h.1 h.2 hm hk]
  have e : X.beh ⟨M.placed (List.replicate 16 0) f [I.word ⟨k, op, 0, 0, c, i, u⟩], s, 4 * (f : Int), 0, [], []⟩ = 4 * (f : Int) + 4 := by
    show (4 * (f : Int) + 4) % 4294967296 = _
    omega
  rw [e]
theorem X.ops_y (y i : Int) : (y + i % 4294967296 * 4 % 4294967296) % 4294967296 = (y + 4 * i) % 4294967296 := by omega
theorem walk_Ops (k1 op1 a1 b1 c1 i1 : Int) (u1 : Bool) (s : A.Regs) (pc : Int) (v : Value) (hs : A.Ok s) (p0 : 0 ≤ pc) (p1 : pc < 4294967296) (w : World) :
    Calls Try.prog 3 #[.agg #[.int .i64 k1, .int .i64 op1, .int .i64 a1, .int .i64 b1, .int .i64 c1, .int .i64 i1, .bool u1], .agg (X.setC s pc v)] w fun e w' => e = .returned (.bool true) ∧ Below w.heap.size w w' := by
  obtain ⟨f, hf⟩ : ∃ f : Nat, pc % 16 = f := ⟨(pc % 16).toNat, by omega⟩
  have f16 : f < 16 := by omega
  obtain ⟨k, op, a, b, c, i, u, hm, C1⟩ := fit_any k1 op1 a1 b1 c1 i1 u1
  have hm0 := hm
  obtain ⟨⟨a0, a1', b0, b1', c0, c1'⟩, hm2⟩ := hm
  simp only at a0 a1' b0 b1' c0 c1' hm2
  by_cases k5 : k = 5
  · subst k5
    obtain ⟨op', i', hm', C2⟩ := fit_br op1 i1 u1
    have hx := X.ops_br s f f16 7 op' 0 i' u1 hm' (Or.inr rfl)
    refine walk_Ops_57 k1 op1 a1 b1 c1 i1 u1 s pc v hs p0 p1 f hf f16 op a b c i u op' i' u1 hm' _ _ _ _ w (I.word_lo _ hm') (I.word_hi _ hm') (Lib.hid C1) (Lib.hid C2) (Lib.hid fun w => enc_may _ _ _ _ _ _ _ hm' w) hx (A.taken s op') (Lib.hid fun w => taken_any s op' w) (by omega) (by omega) rfl ?_
    cases ht : A.taken s op'
    · exact Or.inl ⟨rfl, X.brS_not _ _ _ _ ht, X.brP_not _ _ _ _ _ _ ht⟩
    · refine Or.inr ⟨rfl, X.brS_lit _ _ _ _ ht, ?_⟩
      rw [X.brP_lit _ _ _ _ _ _ ht, if_neg (by omega)]
      exact X.ops_y _ _
  · by_cases k6 : k = 6
    · subst k6
      have ha : a = 0 := by omega
      have hb : b = 0 := by omega
      subst ha hb
      have hx := X.ops_br s f f16 6 op c i u hm0 (Or.inl rfl)
      refine walk_Ops_6 k1 op1 a1 b1 c1 i1 u1 s pc v hs p0 p1 f hf f16 op 0 0 c i u hm0 _ _ _ _ w (I.word_lo _ hm0) (I.word_hi _ hm0) (Lib.hid C1) (Lib.hid fun w => enc_may _ _ _ _ _ _ _ hm0 w) hx (A.taken s op) (Lib.hid fun w => taken_any s op w) c0 (by omega) rfl ?_
      cases ht : A.taken s op
      · exact Or.inl ⟨rfl, X.brS_not _ _ _ _ ht, X.brP_not _ _ _ _ _ _ ht⟩
      · refine Or.inr ⟨rfl, X.brS_lit _ _ _ _ ht, ?_⟩
        rw [X.brP_lit _ _ _ _ _ _ ht, if_pos rfl]
    · by_cases k7 : k = 7
      · subst k7
        have ha : a = 0 := by omega
        have hb : b = 0 := by omega
        subst ha hb
        have hx := X.ops_br s f f16 7 op c i u hm0 (Or.inr rfl)
        refine walk_Ops_7 k1 op1 a1 b1 c1 i1 u1 s pc v hs p0 p1 f hf f16 op 0 0 c i u hm0 _ _ _ _ w (I.word_lo _ hm0) (I.word_hi _ hm0) (Lib.hid C1) (Lib.hid fun w => enc_may _ _ _ _ _ _ _ hm0 w) hx (A.taken s op) (Lib.hid fun w => taken_any s op w) c0 (by omega) rfl ?_
        cases ht : A.taken s op
        · exact Or.inl ⟨rfl, X.brS_not _ _ _ _ ht, X.brP_not _ _ _ _ _ _ ht⟩
        · refine Or.inr ⟨rfl, X.brS_lit _ _ _ _ ht, ?_⟩
          rw [X.brP_lit _ _ _ _ _ _ ht, if_neg (by omega)]
          exact X.ops_y _ _
      · have k67 : ¬ (k = 6 ∨ k = 7) := by omega
        have h := X.ops_at f f16 (I.word ⟨k, op, a, b, c, i, u⟩)
        have hst := X.step_ins ⟨M.placed (List.replicate 16 0) f [I.word ⟨k, op, a, b, c, i, u⟩], s, 4 * (f : Int), 0, [], []⟩ ⟨k, op, a, b, c, i, u⟩ rfl h.1 h.2 hm0
        have e1 : X.doT ⟨M.placed (List.replicate 16 0) f [I.word ⟨k, op, a, b, c, i, u⟩], s, 4 * (f : Int), 0, [], []⟩ ⟨k, op, a, b, c, i, u⟩ = (A.run s ⟨k, op, a, b, c, i, u⟩).2 := by unfold X.doT; rw [if_neg k5, if_neg k67]
        have e2 : X.doS ⟨M.placed (List.replicate 16 0) f [I.word ⟨k, op, a, b, c, i, u⟩], s, 4 * (f : Int), 0, [], []⟩ ⟨k, op, a, b, c, i, u⟩ = (A.run s ⟨k, op, a, b, c, i, u⟩).1 := by unfold X.doS; rw [if_neg k5, if_neg k67]
        have e3 : X.doP ⟨M.placed (List.replicate 16 0) f [I.word ⟨k, op, a, b, c, i, u⟩], s, 4 * (f : Int), 0, [], []⟩ ⟨k, op, a, b, c, i, u⟩ = 4 * (f : Int) + 4 := by
          unfold X.doP; rw [if_neg k67]
          show (4 * (f : Int) + 4) % 4294967296 = _
          omega
        have e4 : X.doX ⟨M.placed (List.replicate 16 0) f [I.word ⟨k, op, a, b, c, i, u⟩], s, 4 * (f : Int), 0, [], []⟩ ⟨k, op, a, b, c, i, u⟩ = ⟨M.placed (List.replicate 16 0) f [I.word ⟨k, op, a, b, c, i, u⟩], s, 4 * (f : Int), 0, [], []⟩ := by unfold X.doX; rw [if_neg k5]
        rw [e1, e2, e3, e4] at hst
        have hD := fun w => do_run s k op a b c i u hs w
        have hk : k = 1 ∨ k = 2 ∨ k = 3 ∨ k = 4 := by omega
        by_cases ht : A.Traps s ⟨k, op, a, b, c, i, u⟩
        · rw [A.run_trap s _ hm0 ht] at hst hD
          rw [if_neg (by simp)] at hst
          exact walk_Ops_0 k1 op1 a1 b1 c1 i1 u1 s pc v hs p0 p1 f hf f16 k op a b c i u hm0 _ _ _ _ w (I.word_lo _ hm0) (I.word_hi _ hm0) (Lib.hid C1) (Lib.hid fun w => enc_may _ _ _ _ _ _ _ hm0 w) hst (by omega) (by omega) (Lib.hid hD) (Or.inr ⟨rfl, rfl⟩)
        · rw [A.run_yes s _ hm0 hk ht] at hst hD
          rw [if_pos (Or.inl rfl)] at hst
          exact walk_Ops_0 k1 op1 a1 b1 c1 i1 u1 s pc v hs p0 p1 f hf f16 k op a b c i u hm0 _ _ _ _ w (I.word_lo _ hm0) (I.word_hi _ hm0) (Lib.hid C1) (Lib.hid fun w => enc_may _ _ _ _ _ _ _ hm0 w) hst (by omega) (by omega) (Lib.hid hD) (Or.inl ⟨rfl, rfl⟩)
end Go.Proofs.Ytlmddkciamdldaa
