/-
  LoadRuns: for all parts, every place and every byte the call returns true, and what came in reads as it did. No condition.
-/
import Derived.Test.YtpfgmfiegnkocaaGreatRows
import Derived.Test.YtpfgmfiegnkocaaGreatLoR
import Derived.Test.YtpfgmfiegnkocaaGreatQg
import Derived.WalkKit
import Derived.ProofKit
import Derived.OpenShut
namespace Go.Proofs.YtpfgmfiegnkocaaGreat.loadRuns
open Go.ChangeShapes Go.WideShapes Go.ChangeAt Go.RowKit
set_option linter.unusedVariables false
theorem own : ownKnob Tryz.prog.godebug = none := by kernel_rfl
theorem laidOut : laidOutB Tryz.prog = true := by kernel_rfl
theorem reads : ∀ t ∈ Tryz.f3.params.toList, Tryz.prog.readableRec t = true ∧ t < Tryz.prog.types.size := by
 intro t ht
 rw [Tryz.params3] at ht
 simp only [List.mem_cons, List.not_mem_nil, or_false] at ht
 rcases ht with rfl | rfl | rfl <;> exact ⟨by kernel_rfl, of_decide_eq_true (by kernel_rfl)⟩
set_option maxRecDepth 100000 in
theorem lifted (os : Go.Os) (started : os.Started) (H : Type) (enc : TypeId × Value → H) :
 ReturnsInHanded {} Tryz.checked os 3 .any (Rows.loadRunsSpec.pre6 enc Tryz.prog Tryz.f3 Rows.loadRunsRow.domain false) (Rows.loadRunsSpec.post enc Tryz.prog Tryz.f3 false true false false) := by
 refine returnsInHanded_of_change_sized (C := Tryz.checked) own started (by kernel_rfl) Tryz.func3
  (ChangeSpec.witness6 (enc := enc) (C := Tryz.checked) false ⟨#[], #[.agg #[.slice none 0 0, .slice none 0 0, .slice none 0 0], .agg #[.int .i64 0, .int .i64 0, .slice none 0 0], .int .u8 0], []⟩ 8 (by kernel_rfl) (by kernel_rfl) (by kernel_rfl) (by kernel_rfl)) ?_
 intro W base args ds gs before hval0 hW hcnd hszd _
 have hval : ∀ (j : Nat) t v, Tryz.f3.params[j]? = some t → args[j]? = some v → Value.okWide Tryz.prog W .any base t v := hval0
 have hW' := hW
 obtain ⟨p, q, hA0, hV, rfl, hfz, hnd⟩ := hW
 have hA : DataW.TrodAll enc Tryz.prog W 0 (fun _ => true) true Tryz.f3.params.toList args.toList ds p := hA0
 rw [Tryz.params3] at hA hval
 obtain ⟨v0, vs0, d0, ds0, p0, q0, hargs, rfl, rfl, h0, r0⟩ := trodAll_cons hA
 obtain ⟨v1, vs1, d1, ds1, p1, q1, rfl, rfl, rfl, h1, r1⟩ := trodAll_cons r0
 obtain ⟨v2, vs2, d2, ds2, p2, q2, rfl, rfl, rfl, h2, r2⟩ := trodAll_cons r1
 obtain ⟨rfl, rfl, rfl⟩ := trodAll_nil r2
 obtain rfl : args = #[v0, v1, v2] := by cases args; simp_all
 obtain ⟨rfl, rfl⟩ := trodVars_none hV
 obtain ⟨cs0, rfl, s0⟩ := open_rowB (n := 8) (s := partsSh) (R := reachBytes) Tryz.underlying26 (by kernel_rfl) (hval 0 26 v0 rfl rfl) h0 (fun n hn => of_decide_eq_true (List.all_eq_true.1 hszd n (DataW.weights_mem_each (j := 0) (t := 26) (by first | rfl | kernel_rfl) rfl n hn)))
 obtain ⟨A0, n0, c0, B0, m0, dd0, C0, k0, ee0, q0, x0, y0, z0⟩ := seesB_three s0
 obtain rfl : cs0 = #[.slice A0 n0 c0, .slice B0 m0 dd0, .slice C0 k0 ee0] := Array.ext' q0
 clear q0
 obtain ⟨ws0, hw0⟩ := seesB_wo x0
 obtain ⟨bs0, hs0⟩ := seesB_by y0
 obtain ⟨ns0, hy0⟩ := seesB_st (by decide) z0
 obtain ⟨cs1, rfl, s1⟩ := open_row (n := 8) (s := whereSh) Tryz.underlying28 (by kernel_rfl) (hval 1 28 v1 rfl rfl) h1
 obtain ⟨bb1, mm1, A1, n1, c1, ⟨is1, hx1⟩, e1⟩ := sees_where s1
 obtain rfl : cs1 = #[.int .i64 bb1, .int .i64 mm1, .slice A1 n1 c1] := Array.ext' e1
 clear e1
 obtain ⟨a2, rfl, rfl, rfl, w2⟩ := open_int Tryz.underlying5 (hval 2 5 v2 rfl rfl) h2
 have key : Calls Tryz.prog 3 #[.agg #[.slice A0 n0 c0, .slice B0 m0 dd0, .slice C0 k0 ee0], .agg #[.int .i64 bb1, .int .i64 mm1, .slice A1 n1 c1], .int .u8 a2] W fun e w' => e = .returned (.bool true) ∧ Below W.heap.size W w' := by
  have b2 := bounds_u8 w2
  exact walk_runs W A0 B0 C0 n0 c0 m0 dd0 k0 ee0 ws0 bs0 ns0 hw0 hs0 hy0 bb1 mm1 A1 n1 c1 is1 hx1 a2 b2.1 b2.2
 refine key.mono fun e W' ⟨he, hb⟩ => ?_
 subst he
 exact ⟨_, rfl, post_law laidOut rfl Tryz.underlying4 (by kernel_rfl) reads hW' rfl rfl rfl hb⟩
theorem over : Rows.loadRunsRow.holds Tryz.pinned (OpenSpec.ofChange Rows.loadRunsSpec) :=
 OpenClaim.holds_of_wide 3 Tryz.f3 rfl rfl rfl rfl rfl rfl rfl ⟨rfl, rfl, rfl, rfl, rfl⟩ rfl rfl rfl rfl rfl (by kernel_rfl) Tryz.func3 (by kernel_rfl)
  (of_decide_eq_true (by kernel_rfl)) (by unfold Func.isWrapper; first | (rw [if_pos (by decide +kernel)]; kernel_rfl) | (rw [if_neg (by decide +kernel)]; exact ⟨rfl, rfl⟩))
  (fun os started H enc _ => lifted os started H enc)
theorem proved : Rows.LoadRunsSaid :=
 over
#print axioms proved
end Go.Proofs.YtpfgmfiegnkocaaGreat.loadRuns
