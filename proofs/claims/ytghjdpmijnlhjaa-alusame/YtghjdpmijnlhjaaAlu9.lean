/-
  Do as one plain function.
-/
import Derived.Test.YtghjdpmijnlhjaaAlu7
namespace Go.Proofs.Ytghjdpmijnlhjaa
open Go.RowKit
set_option linter.unusedVariables false
set_option linter.unusedSimpArgs false
namespace A
instance (s : Regs) (x : I.Ins) : Decidable (Traps s x) := by unfold Traps; infer_instance
/-- P4.2: the registers, and the trap -/
noncomputable def run (s : Regs) (x : I.Ins) : Regs × Int := if ¬ I.May x ∨ x.k = 5 ∨ x.k = 6 ∨ x.k = 7 then (s, 0) else if Traps s x then (s, 5) else (done s x, 0)
theorem run_no (s : Regs) (x : I.Ins) (h : ¬ I.May x ∨ x.k = 5 ∨ x.k = 6 ∨ x.k = 7) : run s x = (s, 0) := by unfold run; rw [if_pos h]
theorem run_trap (s : Regs) (x : I.Ins) (hm : I.May x) (h : Traps s x) : run s x = (s, 5) := by
  unfold run
  have := h.1
  rw [if_neg, if_pos h]
  rintro (h' | h' | h' | h')
  · exact h' hm
  · omega
  · omega
  · omega
theorem run_yes (s : Regs) (x : I.Ins) (hm : I.May x) (hk : x.k = 1 ∨ x.k = 2 ∨ x.k = 3 ∨ x.k = 4) (h : ¬ Traps s x) : run s x = (done s x, 0) := by
  unfold run
  rw [if_neg, if_neg h]
  rintro (h' | h' | h' | h')
  · exact h' hm
  · omega
  · omega
  · omega
theorem may_kind (x : I.Ins) (hm : I.May x) : x.k = 1 ∨ x.k = 2 ∨ x.k = 3 ∨ x.k = 4 ∨ x.k = 5 ∨ x.k = 6 ∨ x.k = 7 := by
  have := hm.2; omega
theorem run_ok (s : Regs) (x : I.Ins) (hs : Ok s) : Ok (run s x).1 := by
  unfold run
  split
  · exact hs
  split
  · exact hs
  · rename_i h _
    exact done_ok s x hs (Classical.byContradiction fun h' => h (Or.inl h'))
theorem nat_xor_and (x y : Nat) (hx : x < 4294967296) (hy : y < 4294967296) : (x ||| y) - (x &&& y) = x ^^^ y := by
  have h : (x ^^^ y) + (x &&& y) = x ||| y := by
    have e : BitVec.ofNat 64 (x ^^^ y) &&& BitVec.ofNat 64 (x &&& y) = 0#64 := by
      apply BitVec.eq_of_getLsbD_eq
      intro i hi
      simp only [BitVec.getLsbD_and, BitVec.getLsbD_ofNat, Nat.testBit_and, Nat.testBit_xor, BitVec.getLsbD_zero]
      cases x.testBit i <;> cases y.testBit i <;> simp
    have e2 := congrArg BitVec.toNat (BitVec.add_eq_or_of_and_eq_zero _ _ e)
    have h1 : x ^^^ y < 2 ^ 32 := Nat.xor_lt_two_pow (by omega) (by omega)
    have h2 : x &&& y < 2 ^ 32 := Nat.and_lt_two_pow _ (by omega)
    rw [BitVec.toNat_add, BitVec.toNat_or, BitVec.toNat_ofNat, BitVec.toNat_ofNat, Nat.mod_eq_of_lt (a := x ^^^ y) (by omega), Nat.mod_eq_of_lt (a := x &&& y) (by omega), Nat.mod_eq_of_lt (by omega)] at e2
    rw [e2]
    apply Nat.eq_of_testBit_eq; intro i
    simp only [Nat.testBit_and, Nat.testBit_xor, Nat.testBit_or]
    cases x.testBit i <;> cases y.testBit i <;> rfl
  omega
theorem ann_eq (b n : Int) (h0 : 0 ≤ b) (h1 : b < 4294967296) (h2 : 0 ≤ n) (h3 : n < 4294967296) : bits BinOp.and IntKind.u32 b (4294967295 - n) = bits BinOp.andNot IntKind.u32 b n := by
  rw [u32_and b _ h0 h1 (by omega) (by omega), u32_andNot b n h0 h1 h2 h3]
  congr 3
  omega
theorem xor_eq (b n : Int) (h0 : 0 ≤ b) (h1 : b < 4294967296) (h2 : 0 ≤ n) (h3 : n < 4294967296) : (bits BinOp.or IntKind.u32 b n - bits BinOp.and IntKind.u32 b n) % 4294967296 = bits BinOp.xor IntKind.u32 b n := by
  rw [u32_and b n h0 h1 h2 h3, u32_or b n h0 h1 h2 h3, u32_xor b n h0 h1 h2 h3]
  have := nat_xor_and b.toNat n.toNat (by omega) (by omega)
  have h4 : b.toNat ^^^ n.toNat < 2 ^ 32 := Nat.xor_lt_two_pow (by omega) (by omega)
  have h5 : b.toNat &&& n.toNat ≤ b.toNat ||| n.toNat := Nat.le_trans Nat.and_le_left Nat.left_le_or
  omega
theorem flg_eqb (n z c v : Bool) : bits BinOp.or IntKind.u32 (bits BinOp.or IntKind.u32 (bits BinOp.or IntKind.u32 (if n then 2147483648 else 0) (if z then 1073741824 else 0)) (if c then 536870912 else 0)) (if v then 268435456 else 0) = (if n then 2147483648 else 0) + (if z then 1073741824 else 0) + (if c then 536870912 else 0) + (if v then 268435456 else 0) := by
  cases n <;> cases z <;> cases c <;> cases v <;> decide
theorem flg_eq (s : Regs) : bits BinOp.or IntKind.u32 (bits BinOp.or IntKind.u32 (bits BinOp.or IntKind.u32 (if s.n then 2147483648 else 0) (if s.z then 1073741824 else 0)) (if s.c then 536870912 else 0)) (if s.v then 268435456 else 0) = flg s := flg_eqb s.n s.z s.c s.v
end A
theorem do_run (s : A.Regs) (k op a b c i : Int) (u : Bool) (hs : A.Ok s) (w : World) :
    Calls Try.prog 11 #[.agg (A.cells s), .agg #[.int .i64 k, .int .i64 op, .int .i64 a, .int .i64 b, .int .i64 c, .int .i64 i, .bool u]] w fun e w' => e = .returned (.tuple #[.agg (A.cells (A.run s ⟨k, op, a, b, c, i, u⟩).1), .int .i64 (A.run s ⟨k, op, a, b, c, i, u⟩).2]) ∧ Kept w w' := by
  by_cases hm : I.May ⟨k, op, a, b, c, i, u⟩
  · by_cases h5 : k = 5 ∨ k = 6 ∨ k = 7
    · rw [A.run_no s _ (Or.inr h5)]
      exact do_no s k op a b c i u (Or.inr h5) w
    · by_cases ht : A.Traps s ⟨k, op, a, b, c, i, u⟩
      · rw [A.run_trap s _ hm ht]
        exact do_div s k op a b c i u hs hm ht w
      · have hk : k = 1 ∨ k = 2 ∨ k = 3 ∨ k = 4 := by have := A.may_kind _ hm; simp only at this; omega
        rw [A.run_yes s _ hm hk ht]
        exact do_yes s k op a b c i u hs hm hk ht w
  · rw [A.run_no s _ (Or.inl hm)]
    exact do_no s k op a b c i u (Or.inl hm) w
end Go.Proofs.Ytghjdpmijnlhjaa
