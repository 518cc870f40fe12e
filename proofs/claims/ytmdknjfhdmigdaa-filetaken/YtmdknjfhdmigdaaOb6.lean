/-
  The contracts of object.Same and of the document's Same.
-/
import Derived.Test.YtmdknjfhdmigdaaOb5
namespace Go.Proofs.Ytmdknjfhdmigdaa
open Go.RowKit
set_option linter.unusedVariables false
set_option linter.unusedSimpArgs false
set_option maxRecDepth 100000
set_option maxRecDepth 100000 in
set_option maxHeartbeats 2000000 in
theorem Ob.same_any {w : World} {A B C A' B' C' : Option Addr} {n c m d k e n' c' m' d' k' e' : Nat} {ws ss ws' ss' : List Int} {ys ys' : List Ob.Y} (hW : Wo w A n c ws) (hS : In w B m d ss) (hY : Sy w C k e ys) (hW' : Wo w A' n' c' ws') (hS' : In w B' m' d' ss') (hY' : Sy w C' k' e' ys') :
    Calls Try.prog 18 #[.agg #[.slice A n c, .slice B m d, .slice C k e], .agg #[.slice A' n' c', .slice B' m' d', .slice C' k' e']] w fun r w' => r = .returned (.bool (Ob.same ws ss ys ws' ss' ys')) ∧ Below w.heap.size w w' := by
  have hO := (Has.new #[.slice A n c, .slice B m d, .slice C k e] 26 w).alloc (.cells #[.slice A' n' c', .slice B' m' d', .slice C' k' e'] 26)
  have hP := Has.new1 #[.slice A' n' c', .slice B' m' d', .slice C' k' e'] 26 w (.cells #[.slice A n c, .slice B m d, .slice C k e] 26)
  have hB := (((Kept.refl w).alloc #[.slice A n c, .slice B m d, .slice C k e] 26).alloc #[.slice A' n' c', .slice B' m' d', .slice C' k' e'] 26).below
  replace hW := Lib.hid (hW.below hB)
  replace hS := Lib.hid (hS.below hB)
  replace hY := Lib.hid (hY.below hB)
  replace hW' := Lib.hid (hW'.below hB)
  replace hS' := Lib.hid (hS'.below hB)
  replace hY' := Lib.hid (hY'.below hB)
  obtain ⟨q, hq⟩ : ∃ q, q = Ob.same ws ss ys ws' ss' ys' := ⟨_, rfl⟩
  rw [← hq]
  replace hq := Lib.hid hq
  replace hO := Lib.hid hO
  replace hP := Lib.hid hP
  go_enter Try.func18, Try.ntmps18
  go_wp2_with (fail)
  generalize (w.alloc (.cells #[.slice A n c, .slice B m d, .slice C k e] 26)).alloc (.cells #[.slice A' n' c', .slice B' m' d', .slice C' k' e'] 26) = w1 at *
  refine (Ob.eq_u32_any hW.out.rg hW'.out.rg).mono ?_; rintro r w2 ⟨rfl, hE⟩
  replace hB := Lib.hid (hB.trans (hE.mono hB.size))
  replace hS := Lib.hid (hS.out.below hE)
  replace hY := Lib.hid (hY.out.below hE)
  replace hS' := Lib.hid (hS'.out.below hE)
  replace hY' := Lib.hid (hY'.out.below hE)
  replace hO := Lib.hid (hO.out.below hE)
  replace hP := Lib.hid (hP.out.below hE)
  clear hE hW hW'
  by_cases c1 : ws = ws'
  case neg =>
    have R := Lib.hid (hq.out.trans (Ob.same_not (Or.inl c1)))
    rw [decide_eq_false c1]
    clear hq c1
    go_wp2
    go_ret
    exact ⟨Ob.retB R.out.symm, hB.out⟩
  rw [decide_eq_true c1]
  have o1 := hO.out.cell 1 (.slice B m d) rfl
  have p1 := hP.out.cell 1 (.slice B' m' d') rfl
  replace c1 := Lib.hid c1
  go_wp2_with (fail)
  clear o1 p1
  refine (Ob.eq_i64_any hS.out hS'.out).mono ?_; rintro r w3 ⟨rfl, hE⟩
  replace hB := Lib.hid (hB.out.trans (hE.mono hB.out.size))
  replace hY := Lib.hid (hY.out.below hE)
  replace hY' := Lib.hid (hY'.out.below hE)
  replace hO := Lib.hid (hO.out.below hE)
  replace hP := Lib.hid (hP.out.below hE)
  clear hE hS hS'
  by_cases c2 : ss = ss'
  case neg =>
    have R := Lib.hid (hq.out.trans (Ob.same_not (Or.inr (Or.inl c2))))
    rw [decide_eq_false c2]
    clear hq c2
    go_wp2
    go_ret
    exact ⟨Ob.retB R.out.symm, hB.out⟩
  rw [decide_eq_true c2]
  have o2 := hO.out.cell 2 (.slice C k e) rfl
  have p2 := hP.out.cell 2 (.slice C' k' e') rfl
  replace c2 := Lib.hid c2
  go_wp2_with (fail)
  clear o2 p2
  refine (Ob.eq_sy_any hY.out hY'.out).mono ?_; rintro r w4 ⟨rfl, hE⟩
  replace hB := Lib.hid (hB.out.trans (hE.mono hB.out.size))
  clear hE hY hY' hO hP
  have R := Lib.hid (show decide (ys = ys') = q by rw [hq.out]; unfold Ob.same; apply decide_eq_decide.2; exact ⟨fun h => ⟨c1.out, c2.out, h⟩, fun h => h.2.2⟩)
  rw [R.out]
  clear hq c1 c2
  go_wp2
  go_ret
  exact ⟨rfl, hB.out⟩
theorem Ob.all_take {xs ys : List Ob.Y} {j n : Nat} (h : xs.take j = ys.take j) (hx : xs.length = n) (hy : ys.length = n) (hj : ¬ j < n) : xs = ys := by
  rw [List.take_of_length_le (by omega), List.take_of_length_le (by omega)] at h
  exact h
set_option maxRecDepth 100000 in
set_option maxHeartbeats 4000000 in
theorem Ob.rsame_any {w : World} {A B C A' B' C' : Option Addr} {n c m d k e n' c' m' d' k' e' : Nat} {ws ss ws' ss' : List Int} {ys ys' : List Ob.Y} (hW : Wo w A n c ws) (hS : In w B m d ss) (hY : Sy w C k e ys) (hW' : Wo w A' n' c' ws') (hS' : In w B' m' d' ss') (hY' : Sy w C' k' e' ys') :
    Calls Try.prog 16 #[.agg #[.slice A n c, .slice B m d, .slice C k e], .agg #[.slice A' n' c', .slice B' m' d', .slice C' k' e']] w fun r w' => r = .returned (.bool (Ob.same ws ss ys ws' ss' ys')) ∧ Below w.heap.size w w' := by
  have hO := (Has.new #[.slice A n c, .slice B m d, .slice C k e] 26 w).alloc (.cells #[.slice A' n' c', .slice B' m' d', .slice C' k' e'] 26)
  have hP := Has.new1 #[.slice A' n' c', .slice B' m' d', .slice C' k' e'] 26 w (.cells #[.slice A n c, .slice B m d, .slice C k e] 26)
  have hB := (((Kept.refl w).alloc #[.slice A n c, .slice B m d, .slice C k e] 26).alloc #[.slice A' n' c', .slice B' m' d', .slice C' k' e'] 26).below
  replace hW := Lib.hid (hW.below hB)
  replace hS := Lib.hid (hS.below hB)
  replace hY := Lib.hid (hY.below hB)
  replace hW' := Lib.hid (hW'.below hB)
  replace hS' := Lib.hid (hS'.below hB)
  replace hY' := Lib.hid (hY'.below hB)
  obtain ⟨q, hq⟩ : ∃ q, q = Ob.same ws ss ys ws' ss' ys' := ⟨_, rfl⟩
  rw [← hq]
  replace hq := Lib.hid hq
  replace hO := Lib.hid hO
  replace hP := Lib.hid hP
  go_enter Try.func16, Try.ntmps16
  go_wp2_with (fail)
  generalize (w.alloc (.cells #[.slice A n c, .slice B m d, .slice C k e] 26)).alloc (.cells #[.slice A' n' c', .slice B' m' d', .slice C' k' e'] 26) = w1 at *
  refine (Ch.same5_any hW.out.rg hW'.out.rg).mono ?_; rintro r w2 ⟨rfl, hE⟩
  replace hB := Lib.hid (hB.trans (hE.mono hB.size))
  replace hS := Lib.hid (hS.out.below hE)
  replace hY := Lib.hid (hY.out.below hE)
  replace hS' := Lib.hid (hS'.out.below hE)
  replace hY' := Lib.hid (hY'.out.below hE)
  replace hO := Lib.hid (hO.out.below hE)
  replace hP := Lib.hid (hP.out.below hE)
  clear hE hW hW'
  by_cases c1 : ws = ws'
  case neg =>
    have R := Lib.hid (hq.out.trans (Ob.same_not (Or.inl c1)))
    rw [decide_eq_false c1]
    clear hq c1
    go_wp2
    go_ret
    exact ⟨Ob.retB R.out.symm, hB.out⟩
  rw [decide_eq_true c1]
  have o1 := hO.out.cell 1 (.slice B m d) rfl
  have p1 := hP.out.cell 1 (.slice B' m' d') rfl
  replace c1 := Lib.hid c1
  go_wp2_with (fail)
  clear o1 p1
  refine (Ch.same8_any hS.out hS'.out).mono ?_; rintro r w3 ⟨rfl, hE⟩
  replace hB := Lib.hid (hB.out.trans (hE.mono hB.out.size))
  replace hY := Lib.hid (hY.out.below hE)
  replace hY' := Lib.hid (hY'.out.below hE)
  replace hO := Lib.hid (hO.out.below hE)
  replace hP := Lib.hid (hP.out.below hE)
  clear hE hS hS'
  by_cases c2 : ss = ss'
  case neg =>
    have R := Lib.hid (hq.out.trans (Ob.same_not (Or.inr (Or.inl c2))))
    rw [decide_eq_false c2]
    clear hq c2
    go_wp2
    go_ret
    exact ⟨Ob.retB R.out.symm, hB.out⟩
  rw [decide_eq_true c2]
  have o2 := hO.out.cell 2 (.slice C k e) rfl
  have p2 := hP.out.cell 2 (.slice C' k' e') rfl
  have hl := hY.out.len
  have hl' := hY'.out.len
  have hle := hY.out.le
  have hmx := hY.out.max
  unfold maxLen at hmx
  have hk1 : (k : Int) ≤ 9223372036854775807 := by omega
  by_cases c3 : k = k'
  case neg =>
    have R := Lib.hid (hq.out.trans (Ob.same_not (Or.inr (Or.inr (fun e : ys = ys' => c3 (by rw [← hl, ← hl', e]))))))
    have c4 : ((k : Int) != k') = true := by simpa using (show ¬ (k : Int) = k' by omega)
    have c5 : ((k : Int) == k') = false := by simpa using (show ¬ (k : Int) = k' by omega)
    clear hq c1 c2 c3
    go_wp2
    go_ret
    exact ⟨Ob.retB R.out.symm, hB.out⟩
  subst c3
  have c4 : ((k : Int) != k) = false := by simp
  replace c2 := Lib.hid c2
  have hC : k = 0 ∨ ∃ b off, C = some ⟨b, off, none⟩ := (Nat.eq_zero_or_pos k).imp_right hY.out.place
  have hC' : k = 0 ∨ ∃ b off, C' = some ⟨b, off, none⟩ := (Nat.eq_zero_or_pos k).imp_right hY'.out.place
  clear hmx
  go_wp2
  clear o2 p2
  go_loopw [5] (fun i wr => ∃ j : Nat, j ≤ k ∧ i = .int .i64 j ∧ ys.take j = ys'.take j ∧ Below w3.heap.size w3 wr) (fun i _ => k - (intOf i).toNat)
  case atStart => exact ⟨0, Nat.zero_le _, rfl, rfl, Below.refl _ _⟩
  case round =>
    obtain ⟨j, hj, rfl, ht, hE⟩ := hrel
    have o2 := (hO.out.below hE).cell 2 (.slice C k e) rfl
    have p2 := (hP.out.below hE).cell 2 (.slice C' k e') rfl
    by_cases d1 : j < k
    · have d2 : (j : Int) < k := by omega
      rcases hC with h0 | ⟨b, off, rfl⟩
      · omega
      rcases hC' with h0 | ⟨b', off', rfl⟩
      · omega
      have hp : ys[j]? = some (Ob.nm ys j, Ob.pl ys j) := Ob.at_get (by omega)
      have hp' : ys'[j]? = some (Ob.nm ys' j, Ob.pl ys' j) := Ob.at_get (by omega)
      have g1 := (hY.out.below hE).name j d1
      have g2 := (hY.out.below hE).at j d1
      have g3 := (hY'.out.below hE).name j d1
      have g4 := (hY'.out.below hE).at j d1
      replace hE := Lib.hid hE
      generalize Ob.nm ys j = s at *
      generalize Ob.pl ys j = a at *
      generalize Ob.nm ys' j = t at *
      generalize Ob.pl ys' j = f at *
      by_cases d3 : (s, a) = (t, f)
      · cases d3
        have R := Lib.hid (Ob.take_step ht hp hp')
        have c3 := fun W => Ob.eq_run s s a a W
        rw [show (s.toList == s.toList && a == a) = true by simp] at c3
        clear ht hp hp'
        go_wp2
        go_quiet (fail)
        go_wp2
        go_roundw
        case rel => exact ⟨j + 1, by omega, by go_num, R.out, Bel.drewN hE.out nq⟩
        case measure => simp [intOf]; omega
      · have R := Lib.hid (hq.out.trans (Ob.same_not (Or.inr (Or.inr (Ob.take_apart hp hp' d3)))))
        have c3 := fun W => Ob.eq_run s t a f W
        rw [Ob.eq_not d3] at c3
        replace hB := Lib.hid (hB.out.trans (hE.out.mono hB.out.size))
        clear ht hp hp' hq
        go_wp2
        go_quiet (fail)
        go_wp2
        go_ret
        exact ⟨Ob.retB R.out.symm, Bel.drewN hB.out _⟩
    · have d2 : ¬ (j : Int) < k := by omega
      have R := Lib.hid (show q = true from hq.out.trans (decide_eq_true ⟨c1.out, c2.out, Ob.all_take ht hl hl' d1⟩))
      replace hB := Lib.hid (hB.out.trans (hE.mono hB.out.size))
      clear ht hq
      go_wp2
      go_ret
      exact ⟨Ob.retB R.out.symm, hB.out⟩
end Go.Proofs.Ytmdknjfhdmigdaa
