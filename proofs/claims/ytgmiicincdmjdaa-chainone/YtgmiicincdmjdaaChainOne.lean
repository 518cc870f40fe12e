/-
  ChainOne: for every byte, every two bytes and every two numbers of 16 bits the call returns true, and what came in reads as it did. No condition.
-/
import Derived.Test.YtgmiicincdmjdaaRows
import Derived.Test.YtgmiicincdmjdaaChO
import Derived.Test.YtgmiicincdmjdaaFrame1
import Derived.WalkKit
import Derived.ProofKit
import Derived.OpenShut
namespace Go.Proofs.Ytgmiicincdmjdaa.chainOne
open Go.ChangeShapes Go.WideShapes Go.ChangeAt Go.RowKit
set_option linter.unusedVariables false

theorem own : ownKnob Try.prog.godebug = none := by kernel_rfl
theorem laidOut : laidOutB Try.prog = true := by kernel_rfl
theorem plain40 : plainCells Try.prog 8 40 = some [.int .u8, .int .u8] := by kernel_rfl
theorem plain42 : plainCells Try.prog 8 42 = some [.int .u16, .int .u16] := by kernel_rfl
theorem reads : ∀ t ∈ Try.f7.params.toList, Try.prog.readableRec t = true ∧ t < Try.prog.types.size := by
  intro t ht
  rw [Try.params7] at ht
  simp only [List.mem_cons, List.not_mem_nil, or_false] at ht
  rcases ht with rfl | rfl | rfl <;> exact ⟨by kernel_rfl, of_decide_eq_true (by kernel_rfl)⟩

set_option maxRecDepth 100000 in
theorem lifted (os : Os) (started : os.Started) (H : Type) (enc : TypeId × Value → H) :
    ReturnsInHanded {} Try.checked os 7 .any (Rows.chainOneSpec.pre6 enc Try.prog Try.f7 Rows.chainOneRow.domain false) (Rows.chainOneSpec.post enc Try.prog Try.f7 false true false false) := by
  refine returnsInHanded_of_change (C := Try.checked) own started (by kernel_rfl) Try.func7
    (ChangeSpec.witness6 (enc := enc) (C := Try.checked) false ⟨#[], #[.int .u8 0, .agg #[.int .u8 0, .int .u8 0], .agg #[.int .u16 0, .int .u16 0]], []⟩ 8 (by kernel_rfl) (by kernel_rfl) (by kernel_rfl) (by kernel_rfl)) ?_
  intro W base args ds gs before hval0 hW hcnd _
  have hval : ∀ (j : Nat) t v, Try.f7.params[j]? = some t → args[j]? = some v → Value.okWide Try.prog W .any base t v := hval0
  have hW' := hW
  obtain ⟨p, q, hA0, hV, rfl, hfz, hnd⟩ := hW
  have hA : DataW.TrodAll enc Try.prog W 0 (fun _ => true) true Try.f7.params.toList args.toList ds p := hA0
  rw [Try.params7] at hA hval
  obtain ⟨v0, vs0, d0, ds0, p0, q0, hargs, rfl, rfl, h0, r0⟩ := trodAll_cons hA
  obtain ⟨v1, vs1, d1, ds1, p1, q1, rfl, rfl, rfl, h1, r1⟩ := trodAll_cons r0
  obtain ⟨v2, vs2, d2, ds2, p2, q2, rfl, rfl, rfl, h2, r2⟩ := trodAll_cons r1
  obtain ⟨rfl, rfl, rfl⟩ := trodAll_nil r2
  obtain rfl : args = #[v0, v1, v2] := by cases args; simp_all
  obtain ⟨rfl, rfl⟩ := trodVars_none hV
  obtain ⟨a0, rfl, rfl, rfl, w0⟩ := open_int Try.underlying5 (hval 0 5 v0 rfl rfl) h0
  obtain ⟨cs1, rfl, hc1, rfl⟩ := open_plain plain40 (by first | exact Or.inl ⟨_, Try.underlying40⟩ | exact Or.inr ⟨_, _, Try.underlying40⟩) (hval 1 40 v1 rfl rfl) h1
  obtain ⟨a1_0, _, e1, w1_0, a1_1, _, rfl, w1_1, rfl⟩ := hc1
  obtain rfl : cs1 = #[.int .u8 a1_0, .int .u8 a1_1] := Array.ext' e1
  clear e1
  obtain ⟨cs2, rfl, hc2, rfl⟩ := open_plain plain42 (by first | exact Or.inl ⟨_, Try.underlying42⟩ | exact Or.inr ⟨_, _, Try.underlying42⟩) (hval 2 42 v2 rfl rfl) h2
  obtain ⟨a2_0, _, e2, w2_0, a2_1, _, rfl, w2_1, rfl⟩ := hc2
  obtain rfl : cs2 = #[.int .u16 a2_0, .int .u16 a2_1] := Array.ext' e2
  clear e2
  have key : Calls Try.prog 7 #[.int .u8 a0, .agg #[.int .u8 a1_0, .int .u8 a1_1], .agg #[.int .u16 a2_0, .int .u16 a2_1]] W fun e w' => e = .returned (.bool true) ∧ Below W.heap.size W w' := by
    have b0 := wf_u8 w0
    have b1 := wf_u8 w1_0
    have b2 := wf_u8 w1_1
    have b3 := wf_u16 w2_0
    have b4 := wf_u16 w2_1
    exact walk_one W a0 b0.1 b0.2 a1_0 a1_1 b1.1 b1.2 b2.1 b2.2 a2_0 a2_1 b3.1 b3.2 b4.1 b4.2
  refine key.mono fun e W' ⟨he, hb⟩ => ?_
  subst he
  exact ⟨_, rfl, post_law laidOut rfl Try.underlying4 (by kernel_rfl) reads hW' rfl rfl rfl hb⟩

theorem over : Rows.chainOneRow.holds Try.pinned (OpenSpec.ofChange Rows.chainOneSpec) :=
  OpenClaim.holds_of_wide 7 Try.f7 rfl rfl rfl rfl rfl rfl rfl ⟨rfl, rfl, rfl, rfl, rfl⟩ rfl rfl rfl rfl rfl (by kernel_rfl) Try.func7 (by kernel_rfl)
    (of_decide_eq_true (by kernel_rfl)) (by unfold Func.isWrapper; first | (rw [if_pos (by decide +kernel)]; kernel_rfl) | (rw [if_neg (by decide +kernel)]; exact ⟨rfl, rfl⟩))
    (fun os started H enc _ => lifted os started H enc)

theorem proved : Rows.ChainOneSaid :=
  over
#print axioms proved
end Go.Proofs.Ytgmiicincdmjdaa.chainOne
