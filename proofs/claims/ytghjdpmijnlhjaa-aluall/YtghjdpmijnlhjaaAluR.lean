/-
  The document's Do is the same plain function.
-/
import Derived.Test.YtghjdpmijnlhjaaAlu9
import Derived.Test.YtghjdpmijnlhjaaWord2
import Derived.Test.YtghjdpmijnlhjaaAlu8a
import Derived.Test.YtghjdpmijnlhjaaAlu8b
import Derived.Test.YtghjdpmijnlhjaaAlu8c
import Derived.Test.YtghjdpmijnlhjaaAlu8d
import Derived.Test.YtghjdpmijnlhjaaAlu8e
import Derived.Test.YtghjdpmijnlhjaaAlu8f
namespace Go.Proofs.Ytghjdpmijnlhjaa
open Go.RowKit
set_option linter.unusedVariables false
set_option linter.unusedSimpArgs false
/-- the document's, of an operation that does not trap -/
theorem rdo_yes (s : A.Regs) (k op a b c i : Int) (u : Bool) (hs : A.Ok s) (hm : I.May ⟨k, op, a, b, c, i, u⟩) (hk : k = 1 ∨ k = 2 ∨ k = 3 ∨ k = 4) (ht : ¬ A.Traps s ⟨k, op, a, b, c, i, u⟩) (w : World) :
    Calls Try.prog 12 #[.agg (A.cells s), .agg #[.int .i64 k, .int .i64 op, .int .i64 a, .int .i64 b, .int .i64 c, .int .i64 i, .bool u]] w fun e w' => e = .returned (.tuple #[.agg (A.cells (A.done s ⟨k, op, a, b, c, i, u⟩)), .int .i64 0]) ∧ Kept w w' := by
  have HM := rmay_any k op a b c i u
  rw [show I.may ⟨k, op, a, b, c, i, u⟩ = true from decide_eq_true hm] at HM
  replace HM := Lib.hid HM
  have hr := A.res_ok s _ hs hm
  have hn := A.num_ok s _ hs hm.1.2.2.2.2.1 hm.1.2.2.2.2.2
  obtain ⟨⟨a0, a1, b0, b1, c0, c1⟩, hm2⟩ := hm
  simp only at a0 a1 b0 b1 c0 c1 hm2
  have hb := hs.1 b.toNat (by omega)
  rcases hk with rfl | rfl | rfl | rfl
  · rcases (show op = 0 ∨ op = 1 ∨ op = 2 ∨ op = 3 ∨ op = 4 ∨ op = 5 ∨ op = 6 ∨ op = 7 ∨ op = 8 ∨ op = 9 ∨ op = 10 ∨ op = 11 by omega) with rfl | rfl | rfl | rfl | rfl | rfl | rfl | rfl | rfl | rfl | rfl | rfl
    · cases u
      · exact rdo_1_0f s a b c i _ _ (s.r c.toNat) a0 (by omega) b0 (by omega) c0 (by omega) hb.1 hb.2 hn.1 hn.2 rfl rfl hr.1.1 hr.1.2 w HM (Lib.hid rfl)
      · exact rdo_1_0t s a b c i _ _ ((s.r c.toNat) * 65536 % 4294967296) a0 (by omega) b0 (by omega) c0 (by omega) hb.1 hb.2 hn.1 hn.2 rfl rfl hr.1.1 hr.1.2 w HM (Lib.hid rfl)
    · exact rdo_1_1 s a b c i _ _ (W.shift 1 (s.r b.toNat) (s.r c.toNat)) u a0 (by omega) b0 (by omega) c0 (by omega) hb.1 hb.2 hn.1 hn.2 rfl rfl hr.1.1 hr.1.2 w HM (Lib.hid (rshift_any 1 _ _ hb.1 hb.2 hn.1 hn.2))
    · exact rdo_1_2 s a b c i _ _ (W.shift 2 (s.r b.toNat) (s.r c.toNat)) u a0 (by omega) b0 (by omega) c0 (by omega) hb.1 hb.2 hn.1 hn.2 rfl rfl hr.1.1 hr.1.2 w HM (Lib.hid (rshift_any 2 _ _ hb.1 hb.2 hn.1 hn.2))
    · exact rdo_1_3 s a b c i _ _ (W.shift 3 (s.r b.toNat) (s.r c.toNat)) u a0 (by omega) b0 (by omega) c0 (by omega) hb.1 hb.2 hn.1 hn.2 rfl rfl hr.1.1 hr.1.2 w HM (Lib.hid (rshift_any 3 _ _ hb.1 hb.2 hn.1 hn.2))
    · exact rdo_1_4 s a b c i _ _ (bits BinOp.and IntKind.u32 (s.r b.toNat) (s.r c.toNat)) u a0 (by omega) b0 (by omega) c0 (by omega) hb.1 hb.2 hn.1 hn.2 rfl rfl hr.1.1 hr.1.2 w HM (Lib.hid rfl)
    · exact rdo_1_5 s a b c i _ _ (bits BinOp.andNot IntKind.u32 (s.r b.toNat) (s.r c.toNat)) u a0 (by omega) b0 (by omega) c0 (by omega) hb.1 hb.2 hn.1 hn.2 rfl rfl hr.1.1 hr.1.2 w HM (Lib.hid (A.ann_eq _ _ hb.1 hb.2 hn.1 hn.2))
    · exact rdo_1_6 s a b c i _ _ (bits BinOp.or IntKind.u32 (s.r b.toNat) (s.r c.toNat)) u a0 (by omega) b0 (by omega) c0 (by omega) hb.1 hb.2 hn.1 hn.2 rfl rfl hr.1.1 hr.1.2 w HM (Lib.hid rfl)
    · exact rdo_1_7 s a b c i _ _ (bits BinOp.xor IntKind.u32 (s.r b.toNat) (s.r c.toNat)) u a0 (by omega) b0 (by omega) c0 (by omega) hb.1 hb.2 hn.1 hn.2 rfl rfl hr.1.1 hr.1.2 w HM (Lib.hid (A.xor_eq _ _ hb.1 hb.2 hn.1 hn.2))
    · cases u
      · exact rdo_1_8f s a b c i _ _ _ _ _ a0 (by omega) b0 (by omega) c0 (by omega) hb.1 hb.2 hn.1 hn.2 rfl rfl hr.1.1 hr.1.2 w HM (Lib.hid (radd_any _ _ false hb.1 hb.2 hn.1 hn.2))
      · exact rdo_1_8t s a b c i _ _ _ _ _ a0 (by omega) b0 (by omega) c0 (by omega) hb.1 hb.2 hn.1 hn.2 rfl rfl hr.1.1 hr.1.2 w HM (Lib.hid (radd_any _ _ s.c hb.1 hb.2 hn.1 hn.2))
    · cases u
      · exact rdo_1_9f s a b c i _ _ _ _ _ a0 (by omega) b0 (by omega) c0 (by omega) hb.1 hb.2 hn.1 hn.2 rfl rfl hr.1.1 hr.1.2 w HM (Lib.hid (rsub_any _ _ false hb.1 hb.2 hn.1 hn.2))
      · exact rdo_1_9t s a b c i _ _ _ _ _ a0 (by omega) b0 (by omega) c0 (by omega) hb.1 hb.2 hn.1 hn.2 rfl rfl hr.1.1 hr.1.2 w HM (Lib.hid (rsub_any _ _ s.c hb.1 hb.2 hn.1 hn.2))
    · exact rdo_1_10 s a b c i _ _ _ u _ a0 (by omega) b0 (by omega) c0 (by omega) hb.1 hb.2 hn.1 hn.2 rfl rfl hr.1.1 hr.1.2 w HM (Lib.hid (rmul_any _ _ u hb.1 hb.2 hn.1 hn.2))
    · have hz : 0 < W.sgn (s.r c.toNat) := by
        have : ¬ W.sgn (s.r c.toNat) ≤ 0 := fun h => ht ⟨Or.inl rfl, rfl, h⟩
        omega
      exact rdo_1_11 s a b c i _ _ _ u _ a0 (by omega) b0 (by omega) c0 (by omega) hb.1 hb.2 hn.1 hn.2 rfl rfl hr.1.1 hr.1.2 w HM (Lib.hid (rdiv_yes _ _ hb.1 hb.2 hn.1 hn.2 hz))
  · rcases (show op = 0 ∨ op = 1 ∨ op = 2 ∨ op = 3 ∨ op = 4 ∨ op = 5 ∨ op = 6 ∨ op = 7 ∨ op = 8 ∨ op = 9 ∨ op = 10 ∨ op = 11 by omega) with rfl | rfl | rfl | rfl | rfl | rfl | rfl | rfl | rfl | rfl | rfl | rfl
    · cases u
      · exact rdo_2_0f s a b c i _ _ (i % 4294967296) a0 (by omega) b0 (by omega) c0 (by omega) hb.1 hb.2 hn.1 hn.2 rfl rfl hr.1.1 hr.1.2 w HM (Lib.hid rfl)
      · exact rdo_2_0t s a b c i _ _ ((i % 4294967296) * 65536 % 4294967296) a0 (by omega) b0 (by omega) c0 (by omega) hb.1 hb.2 hn.1 hn.2 rfl rfl hr.1.1 hr.1.2 w HM (Lib.hid rfl)
    · exact rdo_2_1 s a b c i _ _ (W.shift 1 (s.r b.toNat) (i % 4294967296)) u a0 (by omega) b0 (by omega) c0 (by omega) hb.1 hb.2 hn.1 hn.2 rfl rfl hr.1.1 hr.1.2 w HM (Lib.hid (rshift_any 1 _ _ hb.1 hb.2 hn.1 hn.2))
    · exact rdo_2_2 s a b c i _ _ (W.shift 2 (s.r b.toNat) (i % 4294967296)) u a0 (by omega) b0 (by omega) c0 (by omega) hb.1 hb.2 hn.1 hn.2 rfl rfl hr.1.1 hr.1.2 w HM (Lib.hid (rshift_any 2 _ _ hb.1 hb.2 hn.1 hn.2))
    · exact rdo_2_3 s a b c i _ _ (W.shift 3 (s.r b.toNat) (i % 4294967296)) u a0 (by omega) b0 (by omega) c0 (by omega) hb.1 hb.2 hn.1 hn.2 rfl rfl hr.1.1 hr.1.2 w HM (Lib.hid (rshift_any 3 _ _ hb.1 hb.2 hn.1 hn.2))
    · exact rdo_2_4 s a b c i _ _ (bits BinOp.and IntKind.u32 (s.r b.toNat) (i % 4294967296)) u a0 (by omega) b0 (by omega) c0 (by omega) hb.1 hb.2 hn.1 hn.2 rfl rfl hr.1.1 hr.1.2 w HM (Lib.hid rfl)
    · exact rdo_2_5 s a b c i _ _ (bits BinOp.andNot IntKind.u32 (s.r b.toNat) (i % 4294967296)) u a0 (by omega) b0 (by omega) c0 (by omega) hb.1 hb.2 hn.1 hn.2 rfl rfl hr.1.1 hr.1.2 w HM (Lib.hid (A.ann_eq _ _ hb.1 hb.2 hn.1 hn.2))
    · exact rdo_2_6 s a b c i _ _ (bits BinOp.or IntKind.u32 (s.r b.toNat) (i % 4294967296)) u a0 (by omega) b0 (by omega) c0 (by omega) hb.1 hb.2 hn.1 hn.2 rfl rfl hr.1.1 hr.1.2 w HM (Lib.hid rfl)
    · exact rdo_2_7 s a b c i _ _ (bits BinOp.xor IntKind.u32 (s.r b.toNat) (i % 4294967296)) u a0 (by omega) b0 (by omega) c0 (by omega) hb.1 hb.2 hn.1 hn.2 rfl rfl hr.1.1 hr.1.2 w HM (Lib.hid (A.xor_eq _ _ hb.1 hb.2 hn.1 hn.2))
    · cases u
      · exact rdo_2_8f s a b c i _ _ _ _ _ a0 (by omega) b0 (by omega) c0 (by omega) hb.1 hb.2 hn.1 hn.2 rfl rfl hr.1.1 hr.1.2 w HM (Lib.hid (radd_any _ _ false hb.1 hb.2 hn.1 hn.2))
      · exact rdo_2_8t s a b c i _ _ _ _ _ a0 (by omega) b0 (by omega) c0 (by omega) hb.1 hb.2 hn.1 hn.2 rfl rfl hr.1.1 hr.1.2 w HM (Lib.hid (radd_any _ _ s.c hb.1 hb.2 hn.1 hn.2))
    · cases u
      · exact rdo_2_9f s a b c i _ _ _ _ _ a0 (by omega) b0 (by omega) c0 (by omega) hb.1 hb.2 hn.1 hn.2 rfl rfl hr.1.1 hr.1.2 w HM (Lib.hid (rsub_any _ _ false hb.1 hb.2 hn.1 hn.2))
      · exact rdo_2_9t s a b c i _ _ _ _ _ a0 (by omega) b0 (by omega) c0 (by omega) hb.1 hb.2 hn.1 hn.2 rfl rfl hr.1.1 hr.1.2 w HM (Lib.hid (rsub_any _ _ s.c hb.1 hb.2 hn.1 hn.2))
    · exact rdo_2_10 s a b c i _ _ _ u _ a0 (by omega) b0 (by omega) c0 (by omega) hb.1 hb.2 hn.1 hn.2 rfl rfl hr.1.1 hr.1.2 w HM (Lib.hid (rmul_any _ _ u hb.1 hb.2 hn.1 hn.2))
    · have hz : 0 < W.sgn (i % 4294967296) := by
        have : ¬ W.sgn (i % 4294967296) ≤ 0 := fun h => ht ⟨Or.inr rfl, rfl, h⟩
        omega
      exact rdo_2_11 s a b c i _ _ _ u _ a0 (by omega) b0 (by omega) c0 (by omega) hb.1 hb.2 hn.1 hn.2 rfl rfl hr.1.1 hr.1.2 w HM (Lib.hid (rdiv_yes _ _ hb.1 hb.2 hn.1 hn.2 hz))
  · exact rdo_3 s op a b c i _ _ s.h u a0 (by omega) b0 (by omega) c0 (by omega) hb.1 hb.2 (hs.1 c.toNat (by omega)).1 (hs.1 c.toNat (by omega)).2 rfl rfl hr.1.1 hr.1.2 w HM (Lib.hid rfl)
  · exact rdo_4 s op a b c i _ _ (A.flg s) u _ _ _ _ s.n s.z s.c s.v rfl rfl rfl rfl a0 (by omega) b0 (by omega) c0 (by omega) hb.1 hb.2 (hs.1 c.toNat (by omega)).1 (hs.1 c.toNat (by omega)).2 rfl rfl hr.1.1 hr.1.2 w HM (Lib.hid (rbit_31 s.n)) (Lib.hid (rbit_30 s.z)) (Lib.hid (rbit_29 s.c)) (Lib.hid (rbit_28 s.v)) (Lib.hid (A.flg_eq s))
theorem rdo_run (s : A.Regs) (k op a b c i : Int) (u : Bool) (hs : A.Ok s) (w : World) :
    Calls Try.prog 12 #[.agg (A.cells s), .agg #[.int .i64 k, .int .i64 op, .int .i64 a, .int .i64 b, .int .i64 c, .int .i64 i, .bool u]] w fun e w' => e = .returned (.tuple #[.agg (A.cells (A.run s ⟨k, op, a, b, c, i, u⟩).1), .int .i64 (A.run s ⟨k, op, a, b, c, i, u⟩).2]) ∧ Kept w w' := by
  have HM := rmay_any k op a b c i u
  by_cases hm : I.May ⟨k, op, a, b, c, i, u⟩
  · rw [show I.may ⟨k, op, a, b, c, i, u⟩ = true from decide_eq_true hm] at HM
    by_cases h5 : k = 5 ∨ k = 6 ∨ k = 7
    · rw [A.run_no s _ (Or.inr h5)]
      rcases h5 with rfl | rfl | rfl
      · exact rdo_5 s op a b c i u w (Lib.hid HM)
      · exact rdo_6 s op a b c i u w (Lib.hid HM)
      · exact rdo_7 s op a b c i u w (Lib.hid HM)
    · by_cases ht : A.Traps s ⟨k, op, a, b, c, i, u⟩
      · rw [A.run_trap s _ hm ht]
        replace HM := Lib.hid HM
        have hn := A.num_ok s _ hs hm.1.2.2.2.2.1 hm.1.2.2.2.2.2
        obtain ⟨⟨a0, a1, b0, b1, c0, c1⟩, hm2⟩ := hm
        simp only at a0 a1 b0 b1 c0 c1 hm2
        have hb := hs.1 b.toNat (by omega)
        obtain ⟨hk, h11, hz⟩ := ht
        simp only at hk h11
        subst h11
        rcases hk with rfl | rfl
        · exact rdo_1_11n s a b c i _ _ 0 u a0 (by omega) b0 (by omega) c0 (by omega) hb.1 hb.2 hn.1 hn.2 rfl rfl (by omega) (by omega) w HM (Lib.hid (rdiv_no _ _ hb.1 hb.2 hn.1 hn.2 hz))
        · exact rdo_2_11n s a b c i _ _ 0 u a0 (by omega) b0 (by omega) c0 (by omega) hb.1 hb.2 hn.1 hn.2 rfl rfl (by omega) (by omega) w HM (Lib.hid (rdiv_no _ _ hb.1 hb.2 hn.1 hn.2 hz))
      · have hk : k = 1 ∨ k = 2 ∨ k = 3 ∨ k = 4 := by have := A.may_kind _ hm; simp only at this; omega
        rw [A.run_yes s _ hm hk ht]
        exact rdo_yes s k op a b c i u hs hm hk ht w
  · rw [A.run_no s _ (Or.inl hm)]
    rw [show I.may ⟨k, op, a, b, c, i, u⟩ = false from decide_eq_false hm] at HM
    exact rdo_not s k op a b c i u w (Lib.hid HM)
end Go.Proofs.Ytghjdpmijnlhjaa
