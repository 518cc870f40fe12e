/-
  The walk of NameInstr.
-/
import Derived.Test.YtkkoihhkfophnaaDoorNaB
import Derived.Test.YtkkoihhkfophnaaDoorNaS
import Derived.Test.YtkkoihhkfophnaaDoorIsaF
namespace Go.Proofs.YtkkoihhkfophnaaDoor
open Go.RowKit
set_option linter.unusedVariables false
set_option linter.unusedSimpArgs false
set_option maxRecDepth 100000
/-- an instruction lies in the block B -/
def Na.Bx (B : Nat) (k op a b c i : Int) (u : Bool) (w : World) : Prop := w.heap[B]? = some (.cells #[.int .i64 k, .int .i64 op, .int .i64 a, .int .i64 b, .int .i64 c, .int .i64 i, .bool u] 38 (0, 0))
theorem Na.Bx.cells {B : Nat} {k op a b c i : Int} {u : Bool} {w : World} (h : Na.Bx B k op a b c i u w) : w.cell? ⟨B, 0, none⟩ = some (.int .i64 k) ∧ w.cell? ⟨B, 1, none⟩ = some (.int .i64 op) ∧ w.cell? ⟨B, 2, none⟩ = some (.int .i64 a) ∧ w.cell? ⟨B, 3, none⟩ = some (.int .i64 b) ∧ w.cell? ⟨B, 4, none⟩ = some (.int .i64 c) ∧ w.cell? ⟨B, 5, none⟩ = some (.int .i64 i) ∧ w.cell? ⟨B, 6, none⟩ = some (.bool u) := by
  unfold Na.Bx at h
  refine ⟨?_, ?_, ?_, ?_, ?_, ?_, ?_⟩ <;> simp [World.cell?, h]
theorem Na.Bx.below {B : Nat} {k op a b c i : Int} {u : Bool} {w w' : World} (h : Na.Bx B k op a b c i u w) (hb : Below w.heap.size w w') : Na.Bx B k op a b c i u w' := (hb.block _ (lt_of_block h)).trans h
theorem Na.Bx.new (k op a b c i : Int) (u : Bool) (w : World) : Na.Bx w.heap.size k op a b c i u (w.alloc (.cells #[.int .i64 k, .int .i64 op, .int .i64 a, .int .i64 b, .int .i64 c, .int .i64 i, .bool u] 38)) := heap_alloc_last _ _
def Na.may (k op : Int) (u : Bool) : Bool :=
  ((decide (k = 1) || decide (k = 2)) && decide (op ≤ 11) && (!u || (decide (k = 2) && decide (op = 0)) || (decide (8 ≤ op) && decide (op ≤ 10)))) || ((decide (k = 3) || decide (k = 4)) && decide (op = 0) && !u) || (decide (k = 5) && decide (op ≤ 3) && !u) || decide (k = 6) || decide (k = 7)
def Na.kd (k : Int) : Int := if k = 2 then 1 else if k = 6 then 7 else k
theorem Na.may_all : ∀ k ∈ Na.eleven, ∀ op ∈ Na.sixteen, ∀ u : Bool, Na.may k op u = true → Na.mn (Na.kd k) op u ≠ [] ∧ Na.label (Na.mn (Na.kd k) op u) = true ∧ (Na.mn (Na.kd k) op u).length ≤ 4 := by decide +kernel
theorem Na.may_of {k op a b c i : Int} {u : Bool} (h : I.May ⟨k, op, a, b, c, i, u⟩) : (1 ≤ k ∧ k ≤ 7) ∧ (0 ≤ op ∧ op ≤ 15) ∧ Na.mn (Na.kd k) op u ≠ [] ∧ Na.label (Na.mn (Na.kd k) op u) = true ∧ (Na.mn (Na.kd k) op u).length ≤ 4 := by
  unfold I.May at h
  simp only [] at h
  have h1 : (1 ≤ k ∧ k ≤ 7) ∧ 0 ≤ op ∧ op ≤ 15 := by omega
  refine ⟨h1.1, h1.2, Na.may_all k ?_ op ?_ u ?_⟩
  · unfold Na.eleven; simp only [List.mem_cons, List.not_mem_nil, or_false]; omega
  · unfold Na.sixteen; simp only [List.mem_cons, List.not_mem_nil, or_false]; omega
  · unfold Na.may
    cases u <;> simp <;> simp at h <;> omega
set_option maxHeartbeats 4000000 in
set_option maxRecDepth 100000 in
theorem walk_instr_at (k op a b c i k' op' a' b' c' i' K : Int) (u u' : Bool) (m : ByteArray) (w : World)
    (SH : Hid (Calls Tryd.prog 8 #[] (w.alloc (.cells #[.int .i64 k, .int .i64 op, .int .i64 a, .int .i64 b, .int .i64 c, .int .i64 i, .bool u] 38)) fun e w' => e = .returned (.bool true) ∧ Below (w.alloc (.cells #[.int .i64 k, .int .i64 op, .int .i64 a, .int .i64 b, .int .i64 c, .int .i64 i, .bool u] 38)).heap.size (w.alloc (.cells #[.int .i64 k, .int .i64 op, .int .i64 a, .int .i64 b, .int .i64 c, .int .i64 i, .bool u] 38)) w'))
    (CF : Hid (∀ w, Calls Tryd.prog 21 #[.agg #[.int .i64 k, .int .i64 op, .int .i64 a, .int .i64 b, .int .i64 c, .int .i64 i, .bool u]] w fun e w' => e = .returned (.agg #[.int .i64 (k'), .int .i64 (op'), .int .i64 (a'), .int .i64 (b'), .int .i64 (c'), .int .i64 (i'), .bool (u')]) ∧ Kept w w'))
    (CM : Hid (∀ w2, Below w.heap.size w w2 → Calls Tryd.prog 16 #[.int .i64 K, .int .i64 op', .bool u'] w2 fun e w' => e = .returned (.string m) ∧ Below w2.heap.size w2 w'))
    (CO : Hid (∀ w2, Below w.heap.size w w2 → Calls Tryd.prog 12 #[.string m] w2 fun e w' => e = .returned (.tuple #[.int .i64 K, .int .i64 op', .bool u', .bool true]) ∧ Below w2.heap.size w2 w'))
    (CL : Hid (∀ w, Calls Tryd.prog 14 #[.string m] w fun e w' => e = .returned (.bool true) ∧ w = w'))
    (e0 : (m.toList == []) = false) (e00 : m.toList.isEmpty = false) (e1 : (m.size : Int) ≤ 4) (hK : K = 1 ∧ k' = 2 ∨ K = 7 ∧ k' = 6 ∨ K = k' ∧ ¬ k' = 2 ∧ ¬ k' = 6) :
    Calls Tryd.prog 6 #[.agg #[.int .i64 k, .int .i64 op, .int .i64 a, .int .i64 b, .int .i64 c, .int .i64 i, .bool u]] w fun e w' => e = .returned (.bool true) ∧ Below w.heap.size w w' := by
  have X0 := Lib.hid (Na.Bx.new k op a b c i u w)
  have H0 := Lib.hid (((Kept.refl w).alloc #[.int .i64 k, .int .i64 op, .int .i64 a, .int .i64 b, .int .i64 c, .int .i64 i, .bool u] 38).below)
  go_enter Tryd.func6, Tryd.ntmps6
  go_wp2_with fail
  refine SH.out.mono ?_; rintro e w1 ⟨rfl, hB1⟩
  obtain ⟨j0, j1, j2, j3, j4, j5, j6⟩ := (X0.out.below hB1).cells
  replace H0 := Lib.hid (Bel.trans H0.out hB1)
  clear hB1 SH X0
  go_wp2_with fail
  refine (CF.out _).mono ?_; rintro e w2 ⟨rfl, hK2⟩
  clear j0 j1 j2 j3 j4 j5 j6 CF
  have X1 := Lib.hid (Na.Bx.new k' op' a' b' c' i' u' w2)
  replace H0 := Lib.hid (Bel.trans H0.out (hK2.alloc #[.int .i64 (k'), .int .i64 (op'), .int .i64 (a'), .int .i64 (b'), .int .i64 (c'), .int .i64 (i'), .bool (u')] 38).below)
  clear hK2
  rcases hK with ⟨rfl, rfl⟩ | ⟨rfl, rfl⟩ | ⟨rfl, g1, g2⟩
  all_goals
    go_upto_region 3 with (fail)
    have H0 := H0.out
    have X1 := X1.out
    generalize hW3 : (w2.alloc (.cells _ 38)) = w3 at H0 X1 ⊢
    clear hW3
    replace H0 := Lib.hid H0
    have X1' := Lib.hid X1
    obtain ⟨j0, j1, j2, j3, j4, j5, j6⟩ := X1.cells
    clear X1
    go_wp2_with fail
    refine (CM.out _ H0.out).mono ?_; rintro e w4 ⟨rfl, hB4⟩
    have X2 := X1'.out.below hB4
    replace H0 := Lib.hid (Bel.trans H0.out hB4)
    clear j0 j1 j2 j3 j4 j5 j6 hB4
    go_wp2_with fail
    refine (CO.out _ H0.out).mono ?_; rintro e w5 ⟨rfl, hB5⟩
    have X3 := X2.below hB5
    obtain ⟨j0, j1, j2, j3, j4, j5, j6⟩ := X3.cells
    replace H0 := Lib.hid (Bel.trans H0.out hB5)
    clear hB5 X2 X3
    go_wp2_with fail
    refine (CL.out _).mono ?_; rintro e w6 ⟨rfl, rfl⟩
    go_wp2
    go_ret
    exact ⟨rfl, H0.out⟩
theorem walk_instr (k op a b c i : Int) (u : Bool) (w : World) (hC : Na.Conds w) : Calls Tryd.prog 6 #[.agg #[.int .i64 k, .int .i64 op, .int .i64 a, .int .i64 b, .int .i64 c, .int .i64 i, .bool u]] w fun e w' => e = .returned (.bool true) ∧ Below w.heap.size w w' := by
  obtain ⟨k', op', a', b', c', i', u', hm, CF⟩ := fit_any k op a b c i u
  obtain ⟨h1, h2, h3, h4, h5⟩ := Na.may_of hm
  have hK : Na.kd k' = 1 ∧ k' = 2 ∨ Na.kd k' = 7 ∧ k' = 6 ∨ Na.kd k' = k' ∧ ¬ k' = 2 ∧ ¬ k' = 6 := by
    unfold Na.kd
    by_cases c2 : k' = 2
    · exact Or.inl ⟨by rw [if_pos c2], c2⟩
    · by_cases c6 : k' = 6
      · exact Or.inr (Or.inl ⟨by rw [if_neg c2, if_pos c6], c6⟩)
      · exact Or.inr (Or.inr ⟨by rw [if_neg c2, if_neg c6], c2, c6⟩)
  have hw : Na.Wf (Na.kd k', op', u') := Na.wf_of (by omega) (by omega) (by omega) (by omega)
  have hs : (Na.ms (Na.kd k') op' u').size ≤ 4 := by rw [← L.bs_len, Na.ms_bs]; exact h5
  have e0 : ((Na.ms (Na.kd k') op' u').toList == []) = false := by
    rw [Na.list_at, Na.ms_bs]
    exact decide_eq_false h3
  have e00 : (Na.ms (Na.kd k') op' u').toList.isEmpty = false := by
    cases h : (Na.ms (Na.kd k') op' u').toList with
    | nil => rw [h] at e0; exact e0
    | cons a l => rfl
  have hl : Na.label (L.bs (Na.ms (Na.kd k') op' u')) = true := by rw [Na.ms_bs]; exact h4
  have hO := Na.of_ms h3
  have hb : Below w.heap.size w (w.alloc (.cells #[.int .i64 k, .int .i64 op, .int .i64 a, .int .i64 b, .int .i64 c, .int .i64 i, .bool u] 38)) := ((Kept.refl w).alloc _ _).below
  refine walk_instr_at k op a b c i k' op' a' b' c' i' (Na.kd k') u u' (Na.ms (Na.kd k') op' u') w (Lib.hid (Na.shown_any (hC.below hb))) (Lib.hid CF) (Lib.hid fun w2 hB => Na.mn_any (hC.below hB) u' hw) (Lib.hid fun w2 hB => ?_) (Lib.hid fun w => ?_) e0 e00 (by omega) hK
  · have := Na.of_any (Na.ms (Na.kd k') op' u') (hC.below hB)
    rw [hO] at this
    exact this
  · have := Na.label_any (Na.ms (Na.kd k') op' u') (by omega) w
    rw [hl] at this
    exact this
end Go.Proofs.YtkkoihhkfophnaaDoor
