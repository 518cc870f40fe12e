/-
  The contract of rivetref03's Encode.
-/
import Derived.Test.YtghjdpmijnlhjaaIsaL
import Derived.Test.YtghjdpmijnlhjaaIsaM
import Derived.Test.YtghjdpmijnlhjaaIsaN
namespace Go.Proofs.Ytghjdpmijnlhjaa
open Go.RowKit
set_option linter.unusedVariables false
set_option linter.unusedSimpArgs false
theorem rmay_any (k op a b c i : Int) (u : Bool) (w : World) :
    Calls Try.prog 19 #[.agg #[.int .i64 k, .int .i64 op, .int .i64 a, .int .i64 b, .int .i64 c, .int .i64 i, .bool u]] w fun e w' => e = .returned (.bool (I.may ⟨k, op, a, b, c, i, u⟩)) ∧ Kept w w' := by
  have RA := rreg_any a
  have RB := rreg_any b
  have RC := rreg_any c
  by_cases ha : 0 ≤ a ∧ a ≤ 15
  · rw [show I.reg a = true by unfold I.reg; rw [decide_eq_true ha.1, decide_eq_true ha.2]; rfl] at RA
    by_cases hb : 0 ≤ b ∧ b ≤ 15
    · rw [show I.reg b = true by unfold I.reg; rw [decide_eq_true hb.1, decide_eq_true hb.2]; rfl] at RB
      by_cases hc : 0 ≤ c ∧ c ≤ 15
      · rw [show I.reg c = true by unfold I.reg; rw [decide_eq_true hc.1, decide_eq_true hc.2]; rfl] at RC
        rcases I.kinds k with rfl | rfl | rfl | rfl | rfl | rfl | rfl | ⟨h1, h2, h3, h4, h5, h6, h7⟩
        · cases u
          · exact rmay_1f op a b c i w ha.1 ha.2 hb.1 hb.2 hc.1 hc.2 (Lib.hid RA) (Lib.hid RB) (Lib.hid RC)
          · exact rmay_1t op a b c i w ha.1 ha.2 hb.1 hb.2 hc.1 hc.2 (Lib.hid RA) (Lib.hid RB) (Lib.hid RC)
        · cases u
          · exact rmay_2f op a b c i w ha.1 ha.2 hb.1 hb.2 hc.1 hc.2 (Lib.hid RA) (Lib.hid RB) (Lib.hid RC)
          · exact rmay_2t op a b c i w ha.1 ha.2 hb.1 hb.2 hc.1 hc.2 (Lib.hid RA) (Lib.hid RB) (Lib.hid RC)
        · exact rmay_3 op a b c i u w ha.1 ha.2 hb.1 hb.2 hc.1 hc.2 (Lib.hid RA) (Lib.hid RB) (Lib.hid RC)
        · exact rmay_4 op a b c i u w ha.1 ha.2 hb.1 hb.2 hc.1 hc.2 (Lib.hid RA) (Lib.hid RB) (Lib.hid RC)
        · cases u
          · exact rmay_5f op a b c i w ha.1 ha.2 hb.1 hb.2 hc.1 hc.2 (Lib.hid RA) (Lib.hid RB) (Lib.hid RC)
          · exact rmay_5t op a b c i w ha.1 ha.2 hb.1 hb.2 hc.1 hc.2 (Lib.hid RA) (Lib.hid RB) (Lib.hid RC)
        · exact rmay_6 op a b c i u w ha.1 ha.2 hb.1 hb.2 hc.1 hc.2 (Lib.hid RA) (Lib.hid RB) (Lib.hid RC)
        · exact rmay_7 op a b c i u w ha.1 ha.2 hb.1 hb.2 hc.1 hc.2 (Lib.hid RA) (Lib.hid RB) (Lib.hid RC)
        · exact rmay_k k op a b c i u w h1 h2 h3 h4 h5 h6 h7 ha.1 ha.2 hb.1 hb.2 hc.1 hc.2 (Lib.hid RA) (Lib.hid RB) (Lib.hid RC)
      · rw [show I.reg c = false by unfold I.reg; rw [Bool.and_eq_false_iff, decide_eq_false_iff_not, decide_eq_false_iff_not]; omega] at RC
        rw [show I.may ⟨k, op, a, b, c, i, u⟩ = false from decide_eq_false (fun h => hc ⟨h.1.2.2.2.2.1, h.1.2.2.2.2.2⟩)]
        exact rmay_r2 k op a b c i u w (Lib.hid RA) (Lib.hid RB) (Lib.hid RC)
    · rw [show I.reg b = false by unfold I.reg; rw [Bool.and_eq_false_iff, decide_eq_false_iff_not, decide_eq_false_iff_not]; omega] at RB
      rw [show I.may ⟨k, op, a, b, c, i, u⟩ = false from decide_eq_false (fun h => hb ⟨h.1.2.2.1, h.1.2.2.2.1⟩)]
      exact rmay_r1 k op a b c i u w (Lib.hid RA) (Lib.hid RB)
  · rw [show I.reg a = false by unfold I.reg; rw [Bool.and_eq_false_iff, decide_eq_false_iff_not, decide_eq_false_iff_not]; omega] at RA
    rw [show I.may ⟨k, op, a, b, c, i, u⟩ = false from decide_eq_false (fun h => ha ⟨h.1.1, h.1.2.1⟩)]
    exact rmay_r0 k op a b c i u w (Lib.hid RA)
end Go.Proofs.Ytghjdpmijnlhjaa
