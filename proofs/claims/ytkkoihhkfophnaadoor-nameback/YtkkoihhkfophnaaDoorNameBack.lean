/-
  NameBack: for all bytes and bools the call returns true, and what came in reads as it did. No condition.
-/
import Derived.Test.YtkkoihhkfophnaaDoorRows
import Derived.Test.YtkkoihhkfophnaaDoorNaK
import Derived.Test.YtkkoihhkfophnaaDoorFrame1
import Derived.Test.YtkkoihhkfophnaaDoorFrameN
import Derived.Test.YtkkoihhkfophnaaDoorCards
import Derived.Test.YtkkoihhkfophnaaDoorTie
import Derived.SevenTiedAt
import Derived.LaidMore
import Derived.Stop.Joined
import Derived.WalkKit
import Derived.ProofKit
import Derived.OpenShut
namespace Go.Proofs.YtkkoihhkfophnaaDoor.nameBack
open Go.ChangeShapes Go.WideShapes Go.ChangeAt Go.RowKit
set_option linter.unusedVariables false

theorem own : ownKnob Tryd.prog.godebug = none := by kernel_rfl
theorem laidOut : laidOutB Tryd.prog = true := by kernel_rfl
theorem plain32 : plainCells Tryd.prog 8 32 = some [.int .u8, .int .u8] := by kernel_rfl
theorem plain33 : plainCells Tryd.prog 8 33 = some [.bool, .bool] := by kernel_rfl
theorem reads : ∀ t ∈ Tryd.f4.params.toList, Tryd.prog.readableRec t = true ∧ t < Tryd.prog.types.size := by
  intro t ht
  rw [Tryd.params4] at ht
  simp only [List.mem_cons, List.not_mem_nil, or_false] at ht
  rcases ht with rfl | rfl | rfl <;> exact ⟨by kernel_rfl, of_decide_eq_true (by kernel_rfl)⟩

set_option maxRecDepth 100000 in
theorem lifted (os : Go.Os) (started : os.Started) (H : Type) (enc : TypeId × Value → H) :
    ReturnsInHanded {} Tryd.checked os 4 .any (fun w args => (Rows.nameBackSpec.pre enc Tryd.prog Tryd.f4 [] false w args ∧ laidMetH Tryd.prog Na.laid4 w) ∧ sizedMet enc Tryd.prog Tryd.f4 (OpenSpec.ofChange Rows.nameBackSpec) false w args) (Rows.nameBackSpec.post enc Tryd.prog Tryd.f4 false true false false) := by
  refine returnsInHanded_of_change_and (C := Tryd.checked) (X := fun w _ => laidMetH Tryd.prog Na.laid4 w) (fun _ _ _ hh h => h.of_heap hh) own started (by kernel_rfl) Tryd.func4
    (ChangeSpec.witness_shaped (enc := enc) (C := Tryd.checked) (os := os) (X := fun w _ => laidMetH Tryd.prog Na.laid4 w) false (World.doorLaid Tryd.prog 400 os) #[.agg #[.int .u8 0, .int .u8 0], .agg #[.int .u8 0, .int .u8 0], .agg #[.bool false, .bool false]] 8 rfl (World.shaped_of_RefB (by kernel_rfl) (by kernel_rfl)) (by kernel_rfl) (by kernel_rfl) (by kernel_rfl) (Na.door4 os _)) ?_
  intro W base args ds gs before hval0 hW _ _ hL _
  have hCD := Na.met4 hL
  have hval : ∀ (j : Nat) t v, Tryd.f4.params[j]? = some t → args[j]? = some v → Value.okWide Tryd.prog W .any base t v := hval0
  have hW' := hW
  obtain ⟨p, q, hA0, hV, rfl, hfz, hnd⟩ := hW
  have hA : DataW.TrodAll enc Tryd.prog W 0 (fun _ => true) true Tryd.f4.params.toList args.toList ds p := hA0
  rw [Tryd.params4] at hA hval
  obtain ⟨v0, vs0, d0, ds0, p0, q0, hargs, rfl, rfl, h0, r0⟩ := trodAll_cons hA
  obtain ⟨v1, vs1, d1, ds1, p1, q1, rfl, rfl, rfl, h1, r1⟩ := trodAll_cons r0
  obtain ⟨v2, vs2, d2, ds2, p2, q2, rfl, rfl, rfl, h2, r2⟩ := trodAll_cons r1
  obtain ⟨rfl, rfl, rfl⟩ := trodAll_nil r2
  obtain rfl : args = #[v0, v1, v2] := by cases args; simp_all
  obtain ⟨rfl, rfl⟩ := trodVars_none hV
  obtain ⟨cs0, rfl, hc0, rfl⟩ := open_plain plain32 (by first | exact Or.inl ⟨_, Tryd.underlying32⟩ | exact Or.inr ⟨_, _, Tryd.underlying32⟩) (hval 0 32 v0 rfl rfl) h0
  obtain ⟨a0_0, _, e0, w0_0, a0_1, _, rfl, w0_1, rfl⟩ := hc0
  obtain rfl : cs0 = #[.int .u8 a0_0, .int .u8 a0_1] := Array.ext' e0
  clear e0
  obtain ⟨cs1, rfl, hc1, rfl⟩ := open_plain plain32 (by first | exact Or.inl ⟨_, Tryd.underlying32⟩ | exact Or.inr ⟨_, _, Tryd.underlying32⟩) (hval 1 32 v1 rfl rfl) h1
  obtain ⟨a1_0, _, e1, w1_0, a1_1, _, rfl, w1_1, rfl⟩ := hc1
  obtain rfl : cs1 = #[.int .u8 a1_0, .int .u8 a1_1] := Array.ext' e1
  clear e1
  obtain ⟨cs2, rfl, hc2, rfl⟩ := open_plain plain33 (by first | exact Or.inl ⟨_, Tryd.underlying33⟩ | exact Or.inr ⟨_, _, Tryd.underlying33⟩) (hval 2 33 v2 rfl rfl) h2
  obtain ⟨a2_0, _, e2, a2_1, _, rfl, rfl⟩ := hc2
  obtain rfl : cs2 = #[.bool a2_0, .bool a2_1] := Array.ext' e2
  clear e2
  have key : Calls Tryd.prog 4 #[.agg #[.int .u8 a0_0, .int .u8 a0_1], .agg #[.int .u8 a1_0, .int .u8 a1_1], .agg #[.bool a2_0, .bool a2_1]] W fun e w' => e = .returned (.bool true) ∧ Below W.heap.size W w' := by
    have b0 := wf_u8 w0_0
    have b1 := wf_u8 w0_1
    have b2 := wf_u8 w1_0
    have b3 := wf_u8 w1_1
    exact walk_back W a0_0 a0_1 a1_0 a1_1 a2_0 a2_1 (by omega) (by omega) (by omega) (by omega) hCD
  refine key.mono fun e W' ⟨he, hb⟩ => ?_
  subst he
  exact ⟨_, rfl, post_law laidOut rfl Tryd.underlying4 (by kernel_rfl) reads hW' rfl rfl rfl hb⟩

theorem over : Rows.nameBackRow.holds Tryd.pinned (OpenSpec.ofChange Rows.nameBackSpec) :=
  OpenClaim.holds_of_wide 4 Tryd.f4 rfl rfl rfl rfl rfl rfl rfl ⟨rfl, rfl, rfl, rfl, rfl⟩ rfl rfl rfl rfl rfl (by kernel_rfl) Tryd.func4 (by kernel_rfl)
    (of_decide_eq_true (by kernel_rfl)) (by unfold Func.isWrapper; first | (rw [if_pos (by decide +kernel)]; kernel_rfl) | (rw [if_neg (by decide +kernel)]; exact ⟨rfl, rfl⟩))
    (fun os started H enc _ => lifted os started H enc)

theorem tied : Claim7.holds Tryd.pinned (.plain (OpenSpec.ofChange Rows.nameBackSpec)) Rows.nameBackCard :=
  Claim7.holds_tied_plain_at .later [] [.data, .data, .data, .data] true (true, "eec968e0688111727dade05b30a112dbc47c90420ba11906d6407ce152aeb931") false
    over (fun _ h => by cases h) (by kernel_rfl) (fun _ h => by cases h) nameBack_row_tie rfl ⟨rfl, rfl⟩ (by kernel_rfl) rfl
    (fun f fn hf hfn => by
      obtain rfl : f = 4 := Option.some.inj ((show Tryd.prog.funcNamed "rivet/rivetlaw13.NameBack" = some 4 by kernel_rfl).symm.trans hf) |>.symm
      obtain rfl : fn = Tryd.f4 := (Option.some.inj (Tryd.func4.symm.trans hfn)).symm
      exact ⟨by kernel_rfl, fun j t ht => by
        rw [Tryd.params4] at ht
        have hm : t ∈ [32, 32, 33] := by simpa using Array.mem_of_getElem? ht
        have hall : ([32, 32, 33].all fun u => !Tryd.prog.wantsStandIn u) = true := by kernel_rfl
        exact (show Tryd.prog.wantsStandIn t = false by simpa using List.all_eq_true.1 hall t hm)⟩)
    (by kernel_rfl)

theorem proved : Rows.NameBackCardSaid :=
  tied
#print axioms proved
end Go.Proofs.YtkkoihhkfophnaaDoor.nameBack
