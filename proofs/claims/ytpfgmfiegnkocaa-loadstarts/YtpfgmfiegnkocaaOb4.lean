/-
  The contract of the document's May.
-/
import Derived.Test.YtpfgmfiegnkocaaM06
import Derived.Test.YtpfgmfiegnkocaaCh2
namespace Go.Proofs.Ytpfgmfiegnkocaa
open Go.RowKit
set_option linter.unusedVariables false
set_option linter.unusedSimpArgs false
set_option maxRecDepth 100000
theorem Ob.name_ok {ys : List Ob.Y} (h : L.name (L.bs (Ob.nm ys 0)) = true) : Ob.OkN ys 0 := ⟨h, Ob.lt_empty (Ob.good_size h)⟩
theorem Ob.before {Q : Nat → Prop} {k : Nat} (h : ∀ j, j < k → Q j) (hk : Q k) : ∀ j, j < k + 1 → Q j := fun j hj => by
  rcases Nat.lt_or_ge j k with c | c
  · exact h j c
  · rw [show j = k by omega]; exact hk
theorem Bel.drewWR {N : Nat} {a b : World} (h : Below N a b) : Below N a b.drew := ⟨h.os, h.tape, h.output, h.size, h.block⟩
set_option maxRecDepth 100000 in
set_option maxHeartbeats 4000000 in
theorem Ob.rmay_any {w : World} {A B C : Option Addr} {n c m d k e : Nat} {ws ss : List Int} {ys : List Ob.Y} (hW : Wo w A n c ws) (hS : In w B m d ss) (hY : Sy w C k e ys) (hsz : ∀ y ∈ ys, y.1.size ≤ 1000000) :
    Calls Try.prog 28 #[.agg #[.slice A n c, .slice B m d, .slice C k e]] w fun r w' => r = .returned (.int .i64 (Ob.may ws ss ys)) ∧ Below w.heap.size w w' := by
  have hO := Has.new #[.slice A n c, .slice B m d, .slice C k e] 26 w
  have hB := ((Kept.refl w).alloc #[.slice A n c, .slice B m d, .slice C k e] 26).below
  have hlw := hW.len
  have hls := hS.len
  have hly := hY.len
  have hle := hW.le
  have hmx := hW.max
  have hle2 := hY.le
  have hmx2 := hY.max
  have hle3 := hS.le
  have hmx3 := hS.max
  unfold maxLen at hmx hmx2 hmx3
  replace hW := Lib.hid (hW.below hB)
  replace hS := Lib.hid (hS.below hB)
  replace hY := Lib.hid (hY.below hB)
  obtain ⟨q, hq⟩ : ∃ q, q = Ob.may ws ss ys := ⟨_, rfl⟩
  rw [← hq]
  by_cases c1 : 1024 < n
  · have R := Lib.hid (hq.trans (Ob.may_2 (Or.inl (by omega))))
    have c2 : (n : Int) > 1024 := by omega
    clear hO hq
    replace hB := Lib.hid hB
    go_enter Try.func28, Try.ntmps28
    go_wp2
    go_ret
    exact ⟨Ob.ret R.out.symm, hB.out⟩
  have c2 : ¬ (n : Int) > 1024 := by omega
  by_cases c3 : 64 < k
  · have R := Lib.hid (hq.trans (Ob.may_2 (Or.inr (by omega))))
    have c4 : (k : Int) > 64 := by omega
    clear hO hq
    replace hB := Lib.hid hB
    go_enter Try.func28, Try.ntmps28
    go_wp2
    go_ret
    exact ⟨Ob.ret R.out.symm, hB.out⟩
  have c4 : ¬ (k : Int) > 64 := by omega
  have hbig : ¬ (1024 < ws.length ∨ 64 < ys.length) := by omega
  have hm1 : (m : Int) ≤ 9223372036854775807 := by omega
  have hk1 : (k : Int) ≤ 9223372036854775807 := by omega
  replace hq := Lib.hid hq
  replace hO := Lib.hid hO
  go_enter Try.func28, Try.ntmps28
  go_wp2_with (fail)
  generalize w.alloc (.cells #[.slice A n c, .slice B m d, .slice C k e] 26) = w1 at *
  refine (Ch.rise_any hS.out n (by omega)).mono ?_; rintro r w2 ⟨rfl, hE⟩
  replace hB := Lib.hid (hB.trans (hE.mono hB.size))
  replace hO := Lib.hid (hO.out.below hE)
  replace hW := Lib.hid (hW.out.below hE)
  replace hS := Lib.hid (hS.out.below hE)
  replace hY := Lib.hid (hY.out.below hE)
  clear hE
  by_cases c5 : Ch.Rises n ss
  case neg =>
    have R := Lib.hid (hq.out.trans (Ob.may_7 hbig (by rw [hlw]; exact c5)))
    rw [decide_eq_false c5]
    clear hO hq
    go_wp2
    go_ret
    exact ⟨Ob.ret R.out.symm, hB.out⟩
  have c6 : Ch.Rises ws.length ss := by rw [hlw]; exact c5
  rw [decide_eq_true c5]
  replace c5 := Lib.hid c5
  replace c6 := Lib.hid c6
  have hA : n = 0 ∨ ∃ b off, A = some ⟨b, off, none⟩ := (Nat.eq_zero_or_pos n).imp_right hW.out.place
  have hA' : m = 0 ∨ ∃ b off, B = some ⟨b, off, none⟩ := (Nat.eq_zero_or_pos m).imp_right hS.out.place
  have hA'' : k = 0 ∨ ∃ b off, C = some ⟨b, off, none⟩ := (Nat.eq_zero_or_pos k).imp_right hY.out.place
  go_wp2
  go_loopw [4] (fun i wr => ∃ j : Nat, j ≤ m ∧ i = .int .i64 j ∧ (∀ h, h < j → Ob.LowAt ws ss h) ∧ Below w2.heap.size w2 wr) (fun i _ => m - (intOf i).toNat)
  case atStart => exact ⟨0, Nat.zero_le _, rfl, fun j hj => by omega, Below.refl _ _⟩
  case round =>
    obtain ⟨j, hj, rfl, ho, hE⟩ := hrel
    have o0 := (hO.out.below hE).cell 0 (.slice A n c) rfl
    have o1 := (hO.out.below hE).cell 1 (.slice B m d) rfl
    by_cases d1 : j < m
    · have d2 : (j : Int) < m := by omega
      obtain ⟨s, hs1, hs2, hs3⟩ := Ch.site_nat c5.out j (by omega)
      rcases hA' with h0 | ⟨b', off', rfl⟩
      · omega
      rcases hA with h0 | ⟨b, off, rfl⟩
      · omega
      have g1 := (hS.out.below hE).at j d1
      have g2 := (hW.out.below hE).at s hs2
      rw [hs1] at g1
      have hv : Ch.val ws ss j = ws.getD s 0 := by unfold Ch.val; rw [hs1, Int.toNat_natCast]
      have hr := hW.out.atR (by omega) s
      have d3 : (s : Int) < n := by omega
      by_cases d4 : Ob.LowAt ws ss j
      · have R := Lib.hid (Ob.before ho d4)
        unfold Ob.LowAt at d4
        rw [hv, hlw] at d4
        clear ho hs1 hv
        generalize ws.getD s 0 = x at *
        replace hE := Lib.hid hE
        go_wp2
        go_quiet (fail)
        go_wp2
        go_roundw
        case rel => exact ⟨j + 1, by omega, by go_num, R.out, Bel.drewN hE.out nq⟩
        case measure => simp [intOf]; omega
      · have R := Lib.hid (hq.out.trans (Ob.may_8 hbig c6.out (fun h => d4 (h j (by omega)))))
        unfold Ob.LowAt at d4
        rw [hv, hlw] at d4
        clear ho hs1 hv hq
        generalize ws.getD s 0 = x at *
        replace hE := Lib.hid (hB.out.trans (hE.mono hB.out.size))
        go_wp2
        go_quiet (fail)
        go_wp2
        go_ret
        exact ⟨Ob.ret R.out.symm, Bel.drewN hE.out _⟩
    · have d2 : ¬ (j : Int) < m := by omega
      have c7 := Lib.hid (show Ob.Low ws ss from fun h hh => ho h (by omega))
      replace hB := Lib.hid (hB.out.trans (hE.mono hB.out.size))
      replace hO := Lib.hid (hO.out.below hE)
      replace hY := Lib.hid (hY.out.below hE)
      clear ho hE hW hS hA hA'
      go_wp2
      clear o0 o1
      rename World => w3
      go_loopw [5] (fun i wr => ∃ j : Nat, j ≤ k ∧ i = .int .i64 j ∧ (∀ h, h < j → Ob.OkN ys h) ∧ Below w3.heap.size w3 wr) (fun i _ => k - (intOf i).toNat)
      case atStart => exact ⟨0, Nat.zero_le _, rfl, fun j hj => by omega, Below.refl _ _⟩
      case round =>
        clear d1 d2 hj
        obtain ⟨j, hj, rfl, ho, hE⟩ := hrel
        have o2 := (hO.out.below hE).cell 2 (.slice C k e) rfl
        by_cases d1 : j < k
        · have d2 : (j : Int) < k := by omega
          rcases hA'' with h0 | ⟨b, off, rfl⟩
          · omega
          have g1 := (hY.out.below hE).name j d1
          have CN := Lib.hid (fun w => L.rname_any (Ob.nm ys j) (Ob.size_at hsz j) w)
          cases d3 : L.name (L.bs (Ob.nm ys j)) with
          | false =>
            have R := Lib.hid (hq.out.trans (Ob.may_9 hbig c6.out c7.out (fun h => by have := (h j (by omega)).1; rw [d3] at this; cases this)))
            rw [d3] at CN
            replace hE := Lib.hid (hB.out.trans (hE.mono hB.out.size))
            clear ho hq d3
            generalize Ob.nm ys j = x at *
            go_wp2_with (fail)
            refine WS.start 27 (by kernel_rfl) (by kernel_rfl) ?_
            intro w5 hw5
            replace g1 := (show wr.drew.cell? _ = some _ from g1)
            rw [← hw5] at g1
            replace o2 := (show wr.drew.cell? _ = some _ from o2)
            rw [← hw5] at o2
            replace hE := Lib.hid (show Below _ _ w5 by rw [hw5]; exact Bel.drewWR hE.out)
            clear hw5
            simp only [List.take_succ_cons, List.take_zero, List.drop_succ_cons, List.drop_zero]
            refine WS.step rfl (fun K hK => ?_); go_simp; refine hK _ ?_; clear hK K
            refine WS.step rfl (fun K hK => ?_); go_simp; refine hK _ ?_; clear hK K
            refine WS.step rfl (fun K hK => ?_); go_simp; refine hK _ ?_; clear hK K
            refine WS.step rfl (fun K hK => ?_); go_simp; refine hK _ ?_; clear hK K
            refine WS.step rfl (fun K hK => ?_); go_simp; refine hK _ ?_; clear hK K
            refine WS.step rfl (fun K hK => ?_); go_simp; refine hK _ ?_; clear hK K
            refine WS.step rfl (fun K hK => ?_); go_simp; refine ⟨_, ((CN.out _).mono fun _ _ h => ⟨h.1, h.2.symm⟩), hK _ ?_⟩; clear hK K
            refine WS.step rfl (fun K hK => ?_); go_simp; refine hK _ ?_; clear hK K
            refine WS.step rfl (fun K hK => ?_); go_simp; refine hK _ ?_; clear hK K
            refine WS.skip rfl ?_
            try simp only [Act.put, List.setIfInBounds_toArray, List.set_cons_zero, List.set_cons_succ]
            refine WS.skip rfl ?_
            try simp only [Act.put, List.setIfInBounds_toArray, List.set_cons_zero, List.set_cons_succ]
            refine WS.skip rfl ?_
            try simp only [Act.put, List.setIfInBounds_toArray, List.set_cons_zero, List.set_cons_succ]
            refine WS.skip rfl ?_
            try simp only [Act.put, List.setIfInBounds_toArray, List.set_cons_zero, List.set_cons_succ]
            refine WS.skip rfl ?_
            try simp only [Act.put, List.setIfInBounds_toArray, List.set_cons_zero, List.set_cons_succ]
            refine WS.skip rfl ?_
            try simp only [Act.put, List.setIfInBounds_toArray, List.set_cons_zero, List.set_cons_succ]
            refine WS.skip rfl ?_
            try simp only [Act.put, List.setIfInBounds_toArray, List.set_cons_zero, List.set_cons_succ]
            refine WS.skip rfl ?_
            try simp only [Act.put, List.setIfInBounds_toArray, List.set_cons_zero, List.set_cons_succ]
            refine WS.skip rfl ?_
            try simp only [Act.put, List.setIfInBounds_toArray, List.set_cons_zero, List.set_cons_succ]
            refine WS.skip rfl ?_
            try simp only [Act.put, List.setIfInBounds_toArray, List.set_cons_zero, List.set_cons_succ]
            refine WS.skip rfl ?_
            try simp only [Act.put, List.setIfInBounds_toArray, List.set_cons_zero, List.set_cons_succ]
            refine WS.skip rfl ?_
            try simp only [Act.put, List.setIfInBounds_toArray, List.set_cons_zero, List.set_cons_succ]
            refine WS.skip rfl ?_
            try simp only [Act.put, List.setIfInBounds_toArray, List.set_cons_zero, List.set_cons_succ]
            refine WS.skip rfl ?_
            try simp only [Act.put, List.setIfInBounds_toArray, List.set_cons_zero, List.set_cons_succ]
            refine WS.skip rfl ?_
            try simp only [Act.put, List.setIfInBounds_toArray, List.set_cons_zero, List.set_cons_succ]
            refine WS.skip rfl ?_
            try simp only [Act.put, List.setIfInBounds_toArray, List.set_cons_zero, List.set_cons_succ]
            refine WS.skip rfl ?_
            try simp only [Act.put, List.setIfInBounds_toArray, List.set_cons_zero, List.set_cons_succ]
            refine WS.skip rfl ?_
            try simp only [Act.put, List.setIfInBounds_toArray, List.set_cons_zero, List.set_cons_succ]
            refine WS.nil ?_
            go_wp2
            go_ret
            exact ⟨Ob.ret R.out.symm, hE.out⟩
          | true =>
            rw [d3] at CN
            cases j with
            | zero =>
              have R := Lib.hid (Ob.before ho (Ob.name_ok d3))
              replace hE := Lib.hid hE
              clear ho d3
              generalize Ob.nm ys 0 = x at *
              rw [Nat.zero_mul, Nat.add_zero] at g1
              go_wp2_with (fail)
              refine WS.start 27 (by kernel_rfl) (by kernel_rfl) ?_
              intro w5 hw5
              replace g1 := (show wr.drew.cell? _ = some _ from g1)
              rw [← hw5] at g1
              replace o2 := (show wr.drew.cell? _ = some _ from o2)
              rw [← hw5] at o2
              replace hE := Lib.hid (show Below _ _ w5 by rw [hw5]; exact Bel.drewWR hE.out)
              clear hw5
              simp only [List.take_succ_cons, List.take_zero, List.drop_succ_cons, List.drop_zero]
              refine WS.step rfl (fun K hK => ?_); go_simp; refine hK _ ?_; clear hK K
              refine WS.step rfl (fun K hK => ?_); go_simp; refine hK _ ?_; clear hK K
              refine WS.step rfl (fun K hK => ?_); go_simp; refine hK _ ?_; clear hK K
              refine WS.step rfl (fun K hK => ?_); go_simp; refine hK _ ?_; clear hK K
              refine WS.step rfl (fun K hK => ?_); go_simp; refine hK _ ?_; clear hK K
              refine WS.step rfl (fun K hK => ?_); go_simp; refine hK _ ?_; clear hK K
              refine WS.step rfl (fun K hK => ?_); go_simp; refine ⟨_, ((CN.out _).mono fun _ _ h => ⟨h.1, h.2.symm⟩), hK _ ?_⟩; clear hK K
              refine WS.step rfl (fun K hK => ?_); go_simp; refine hK _ ?_; clear hK K
              refine WS.step rfl (fun K hK => ?_); go_simp; refine hK _ ?_; clear hK K
              refine WS.want rfl (fun K hK => ?_); go_simp; refine hK _ ?_; clear hK K
              refine WS.want rfl (fun K hK => ?_); go_simp; refine hK _ ?_; clear hK K
              refine WS.want rfl (fun K hK => ?_); go_simp; refine hK _ ?_; clear hK K
              refine WS.skip rfl ?_
              try simp only [Act.put, List.setIfInBounds_toArray, List.set_cons_zero, List.set_cons_succ]
              refine WS.skip rfl ?_
              try simp only [Act.put, List.setIfInBounds_toArray, List.set_cons_zero, List.set_cons_succ]
              refine WS.skip rfl ?_
              try simp only [Act.put, List.setIfInBounds_toArray, List.set_cons_zero, List.set_cons_succ]
              refine WS.skip rfl ?_
              try simp only [Act.put, List.setIfInBounds_toArray, List.set_cons_zero, List.set_cons_succ]
              refine WS.skip rfl ?_
              try simp only [Act.put, List.setIfInBounds_toArray, List.set_cons_zero, List.set_cons_succ]
              refine WS.skip rfl ?_
              try simp only [Act.put, List.setIfInBounds_toArray, List.set_cons_zero, List.set_cons_succ]
              refine WS.skip rfl ?_
              try simp only [Act.put, List.setIfInBounds_toArray, List.set_cons_zero, List.set_cons_succ]
              refine WS.skip rfl ?_
              try simp only [Act.put, List.setIfInBounds_toArray, List.set_cons_zero, List.set_cons_succ]
              refine WS.skip rfl ?_
              try simp only [Act.put, List.setIfInBounds_toArray, List.set_cons_zero, List.set_cons_succ]
              refine WS.skip rfl ?_
              try simp only [Act.put, List.setIfInBounds_toArray, List.set_cons_zero, List.set_cons_succ]
              refine WS.skip rfl ?_
              try simp only [Act.put, List.setIfInBounds_toArray, List.set_cons_zero, List.set_cons_succ]
              refine WS.skip rfl ?_
              try simp only [Act.put, List.setIfInBounds_toArray, List.set_cons_zero, List.set_cons_succ]
              refine WS.skip rfl ?_
              try simp only [Act.put, List.setIfInBounds_toArray, List.set_cons_zero, List.set_cons_succ]
              refine WS.skip rfl ?_
              try simp only [Act.put, List.setIfInBounds_toArray, List.set_cons_zero, List.set_cons_succ]
              refine WS.want rfl (fun K hK => ?_); go_simp; refine hK _ ?_; clear hK K
              refine WS.nil ?_
              go_wp2
              go_roundw
              case rel => exact ⟨1, by omega, by go_num, R.out, hE.out⟩
              case measure => simp [intOf]; omega
            | succ j =>
              have g2 := (hY.out.below hE).name j (by omega)
              have d5 : (0 : Int) < (j : Int) + 1 := by omega
              have q5 : decide ((0 : Int) < (j : Int) + 1) = true := decide_eq_true d5
              have q6 : (0 ≤ (j : Int) + 1) = True := eq_true (by omega)
              have q7 : IntKind.i64.wrap (j : Int) = j := by rw [IntKind.wrap_i64]; omega
              have d6 : (j : Int) < k := by omega
              cases d4 : Ob.bl (Ob.nm ys j) (Ob.nm ys (j + 1)) with
              | true =>
                have R := Lib.hid (Ob.before ho ⟨d3, d4⟩)
                have q4 := Ob.le_not d4
                replace hE := Lib.hid hE
                clear ho d3 d4
                generalize Ob.nm ys (j + 1) = x at *
                generalize Ob.nm ys j = y at *
                go_wp2_with (fail)
                refine WS.start 27 (by kernel_rfl) (by kernel_rfl) ?_
                intro w5 hw5
                replace g1 := (show wr.drew.cell? _ = some _ from g1)
                rw [← hw5] at g1
                replace g2 := (show wr.drew.cell? _ = some _ from g2)
                rw [← hw5] at g2
                replace o2 := (show wr.drew.cell? _ = some _ from o2)
                rw [← hw5] at o2
                replace hE := Lib.hid (show Below _ _ w5 by rw [hw5]; exact Bel.drewWR hE.out)
                clear hw5
                simp only [List.take_succ_cons, List.take_zero, List.drop_succ_cons, List.drop_zero]
                refine WS.step rfl (fun K hK => ?_); go_simp; (try (simp only [q4, q5, q6, q7, if_true]; (try go_simp))); refine hK _ ?_; clear hK K
                refine WS.step rfl (fun K hK => ?_); go_simp; (try (simp only [q4, q5, q6, q7, if_true]; (try go_simp))); refine hK _ ?_; clear hK K
                refine WS.step rfl (fun K hK => ?_); go_simp; (try (simp only [q4, q5, q6, q7, if_true]; (try go_simp))); refine hK _ ?_; clear hK K
                refine WS.step rfl (fun K hK => ?_); go_simp; (try (simp only [q4, q5, q6, q7, if_true]; (try go_simp))); refine hK _ ?_; clear hK K
                refine WS.step rfl (fun K hK => ?_); go_simp; (try (simp only [q4, q5, q6, q7, if_true]; (try go_simp))); refine hK _ ?_; clear hK K
                refine WS.step rfl (fun K hK => ?_); go_simp; (try (simp only [q4, q5, q6, q7, if_true]; (try go_simp))); refine hK _ ?_; clear hK K
                refine WS.step rfl (fun K hK => ?_); go_simp; refine ⟨_, ((CN.out _).mono fun _ _ h => ⟨h.1, h.2.symm⟩), hK _ ?_⟩; clear hK K
                refine WS.step rfl (fun K hK => ?_); go_simp; (try (simp only [q4, q5, q6, q7, if_true]; (try go_simp))); refine hK _ ?_; clear hK K
                refine WS.step rfl (fun K hK => ?_); go_simp; (try (simp only [q4, q5, q6, q7, if_true]; (try go_simp))); refine hK _ ?_; clear hK K
                refine WS.want rfl (fun K hK => ?_); go_simp; (try (simp only [q4, q5, q6, q7, if_true]; (try go_simp))); refine hK _ ?_; clear hK K
                refine WS.want rfl (fun K hK => ?_); go_simp; (try (simp only [q4, q5, q6, q7, if_true]; (try go_simp))); refine hK _ ?_; clear hK K
                refine WS.want rfl (fun K hK => ?_); go_simp; (try (simp only [q4, q5, q6, q7, if_true]; (try go_simp))); refine hK _ ?_; clear hK K
                refine WS.want rfl (fun K hK => ?_); go_simp; (try (simp only [q4, q5, q6, q7, if_true]; (try go_simp))); refine hK _ ?_; clear hK K
                refine WS.want rfl (fun K hK => ?_); go_simp; (try (simp only [q4, q5, q6, q7, if_true]; (try go_simp))); refine hK _ ?_; clear hK K
                refine WS.want rfl (fun K hK => ?_); go_simp; (try (simp only [q4, q5, q6, q7, if_true]; (try go_simp))); refine hK _ ?_; clear hK K
                refine WS.want rfl (fun K hK => ?_); go_simp; (try (simp only [q4, q5, q6, q7, if_true]; (try go_simp))); refine hK _ ?_; clear hK K
                refine WS.want rfl (fun K hK => ?_); go_simp; (try (simp only [q4, q5, q6, q7, if_true]; (try go_simp))); refine hK _ ?_; clear hK K
                refine WS.want rfl (fun K hK => ?_); go_simp; (try (simp only [q4, q5, q6, q7, if_true]; (try go_simp))); refine hK _ ?_; clear hK K
                refine WS.want rfl (fun K hK => ?_); go_simp; (try (simp only [q4, q5, q6, q7, if_true]; (try go_simp))); refine hK _ ?_; clear hK K
                refine WS.want rfl (fun K hK => ?_); go_simp; (try (simp only [q4, q5, q6, q7, if_true]; (try go_simp))); refine hK _ ?_; clear hK K
                refine WS.want rfl (fun K hK => ?_); go_simp; (try (simp only [q4, q5, q6, q7, if_true]; (try go_simp))); refine hK _ ?_; clear hK K
                refine WS.want rfl (fun K hK => ?_); go_simp; (try (simp only [q4, q5, q6, q7, if_true]; (try go_simp))); refine hK _ ?_; clear hK K
                refine WS.want rfl (fun K hK => ?_); go_simp; (try (simp only [q4, q5, q6, q7, if_true]; (try go_simp))); refine hK _ ?_; clear hK K
                refine WS.want rfl (fun K hK => ?_); go_simp; (try (simp only [q4, q5, q6, q7, if_true]; (try go_simp))); refine hK _ ?_; clear hK K
                refine WS.want rfl (fun K hK => ?_); go_simp; (try (simp only [q4, q5, q6, q7, if_true]; (try go_simp))); refine hK _ ?_; clear hK K
                refine WS.want rfl (fun K hK => ?_); go_simp; (try (simp only [q4, q5, q6, q7, if_true]; (try go_simp))); refine hK _ ?_; clear hK K
                refine WS.want rfl (fun K hK => ?_); go_simp; (try (simp only [q4, q5, q6, q7, if_true]; (try go_simp))); refine hK _ ?_; clear hK K
                refine WS.nil ?_
                go_wp2
                go_roundw
                case rel => exact ⟨j + 1 + 1, by omega, by go_num, R.out, hE.out⟩
                case measure => simp [intOf]; omega
              | false =>
                have R := Lib.hid (hq.out.trans (Ob.may_9 hbig c6.out c7.out (fun h => by have := (h (j + 1) (by omega)).2; rw [show Ob.pr ys (j + 1) = Ob.nm ys j from rfl, d4] at this; cases this)))
                have q4 := Ob.le_yes d4
                replace hE := Lib.hid (hB.out.trans (hE.mono hB.out.size))
                clear ho hq d3 d4
                generalize Ob.nm ys (j + 1) = x at *
                generalize Ob.nm ys j = y at *
                go_wp2_with (fail)
                refine WS.start 27 (by kernel_rfl) (by kernel_rfl) ?_
                intro w5 hw5
                replace g1 := (show wr.drew.cell? _ = some _ from g1)
                rw [← hw5] at g1
                replace g2 := (show wr.drew.cell? _ = some _ from g2)
                rw [← hw5] at g2
                replace o2 := (show wr.drew.cell? _ = some _ from o2)
                rw [← hw5] at o2
                replace hE := Lib.hid (show Below _ _ w5 by rw [hw5]; exact Bel.drewWR hE.out)
                clear hw5
                simp only [List.take_succ_cons, List.take_zero, List.drop_succ_cons, List.drop_zero]
                refine WS.step rfl (fun K hK => ?_); go_simp; (try (simp only [q4, q5, q6, q7, if_true]; (try go_simp))); refine hK _ ?_; clear hK K
                refine WS.step rfl (fun K hK => ?_); go_simp; (try (simp only [q4, q5, q6, q7, if_true]; (try go_simp))); refine hK _ ?_; clear hK K
                refine WS.step rfl (fun K hK => ?_); go_simp; (try (simp only [q4, q5, q6, q7, if_true]; (try go_simp))); refine hK _ ?_; clear hK K
                refine WS.step rfl (fun K hK => ?_); go_simp; (try (simp only [q4, q5, q6, q7, if_true]; (try go_simp))); refine hK _ ?_; clear hK K
                refine WS.step rfl (fun K hK => ?_); go_simp; (try (simp only [q4, q5, q6, q7, if_true]; (try go_simp))); refine hK _ ?_; clear hK K
                refine WS.step rfl (fun K hK => ?_); go_simp; (try (simp only [q4, q5, q6, q7, if_true]; (try go_simp))); refine hK _ ?_; clear hK K
                refine WS.step rfl (fun K hK => ?_); go_simp; refine ⟨_, ((CN.out _).mono fun _ _ h => ⟨h.1, h.2.symm⟩), hK _ ?_⟩; clear hK K
                refine WS.step rfl (fun K hK => ?_); go_simp; (try (simp only [q4, q5, q6, q7, if_true]; (try go_simp))); refine hK _ ?_; clear hK K
                refine WS.step rfl (fun K hK => ?_); go_simp; (try (simp only [q4, q5, q6, q7, if_true]; (try go_simp))); refine hK _ ?_; clear hK K
                refine WS.want rfl (fun K hK => ?_); go_simp; (try (simp only [q4, q5, q6, q7, if_true]; (try go_simp))); refine hK _ ?_; clear hK K
                refine WS.want rfl (fun K hK => ?_); go_simp; (try (simp only [q4, q5, q6, q7, if_true]; (try go_simp))); refine hK _ ?_; clear hK K
                refine WS.want rfl (fun K hK => ?_); go_simp; (try (simp only [q4, q5, q6, q7, if_true]; (try go_simp))); refine hK _ ?_; clear hK K
                refine WS.want rfl (fun K hK => ?_); go_simp; (try (simp only [q4, q5, q6, q7, if_true]; (try go_simp))); refine hK _ ?_; clear hK K
                refine WS.want rfl (fun K hK => ?_); go_simp; (try (simp only [q4, q5, q6, q7, if_true]; (try go_simp))); refine hK _ ?_; clear hK K
                refine WS.want rfl (fun K hK => ?_); go_simp; (try (simp only [q4, q5, q6, q7, if_true]; (try go_simp))); refine hK _ ?_; clear hK K
                refine WS.want rfl (fun K hK => ?_); go_simp; (try (simp only [q4, q5, q6, q7, if_true]; (try go_simp))); refine hK _ ?_; clear hK K
                refine WS.want rfl (fun K hK => ?_); go_simp; (try (simp only [q4, q5, q6, q7, if_true]; (try go_simp))); refine hK _ ?_; clear hK K
                refine WS.want rfl (fun K hK => ?_); go_simp; (try (simp only [q4, q5, q6, q7, if_true]; (try go_simp))); refine hK _ ?_; clear hK K
                refine WS.want rfl (fun K hK => ?_); go_simp; (try (simp only [q4, q5, q6, q7, if_true]; (try go_simp))); refine hK _ ?_; clear hK K
                refine WS.want rfl (fun K hK => ?_); go_simp; (try (simp only [q4, q5, q6, q7, if_true]; (try go_simp))); refine hK _ ?_; clear hK K
                refine WS.want rfl (fun K hK => ?_); go_simp; (try (simp only [q4, q5, q6, q7, if_true]; (try go_simp))); refine hK _ ?_; clear hK K
                refine WS.want rfl (fun K hK => ?_); go_simp; (try (simp only [q4, q5, q6, q7, if_true]; (try go_simp))); refine hK _ ?_; clear hK K
                refine WS.want rfl (fun K hK => ?_); go_simp; (try (simp only [q4, q5, q6, q7, if_true]; (try go_simp))); refine hK _ ?_; clear hK K
                refine WS.want rfl (fun K hK => ?_); go_simp; (try (simp only [q4, q5, q6, q7, if_true]; (try go_simp))); refine hK _ ?_; clear hK K
                refine WS.want rfl (fun K hK => ?_); go_simp; (try (simp only [q4, q5, q6, q7, if_true]; (try go_simp))); refine hK _ ?_; clear hK K
                refine WS.want rfl (fun K hK => ?_); go_simp; (try (simp only [q4, q5, q6, q7, if_true]; (try go_simp))); refine hK _ ?_; clear hK K
                refine WS.want rfl (fun K hK => ?_); go_simp; (try (simp only [q4, q5, q6, q7, if_true]; (try go_simp))); refine hK _ ?_; clear hK K
                refine WS.nil ?_
                go_wp2
                go_ret
                exact ⟨Ob.ret R.out.symm, hE.out⟩
        · have d2 : ¬ (j : Int) < k := by omega
          have c8 := Lib.hid (show Ob.Names ys from fun h hh => ho h (by omega))
          replace hB := Lib.hid (hB.out.trans (hE.mono hB.out.size))
          replace hO := Lib.hid (hO.out.below hE)
          replace hY := Lib.hid (hY.out.below hE)
          clear ho hE
          go_wp2
          clear o2
          rename World => w4
          go_loopw [6, 7] (fun i _ wr => ∃ j : Nat, j ≤ k ∧ i = .int .i64 j ∧ (∀ h, h < j → Ob.OkP (4 * (n : Int)) ys h) ∧ w4 = wr) (fun i _ _ => k - (intOf i).toNat)
          case atStart => exact ⟨0, Nat.zero_le _, rfl, fun j hj => by omega, rfl⟩
          case round =>
            clear d1 d2 hj
            obtain ⟨j, hj, rfl, ho, rfl⟩ := hrel
            have o2 := hO.out.cell 2 (.slice C k e) rfl
            by_cases d1 : j < k
            · have d2 : (j : Int) < k := by omega
              rcases hA'' with h0 | ⟨b, off, rfl⟩
              · omega
              have g1 := hY.out.at j d1
              have hno : ¬ Ob.OkP (4 * (n : Int)) ys j → q = 8 := fun h => hq.out.trans (Ob.may_88 hbig c6.out c7.out c8.out (fun h' => h (by have := h' j (by omega); rw [hlw] at this; exact this)))
              by_cases e1 : Ob.pl ys j < 0
              · have R := Lib.hid (hno (fun h => by have := h.1; omega))
                clear ho hq hno
                generalize Ob.pl ys j = x at *
                go_wp2
                go_ret
                exact ⟨Ob.ret R.out.symm, hB.out⟩
              · by_cases e2 : 4 * (n : Int) < Ob.pl ys j
                · have R := Lib.hid (hno (fun h => by have := h.2.1; omega))
                  clear ho hq hno
                  generalize Ob.pl ys j = x at *
                  go_wp2
                  go_ret
                  exact ⟨Ob.ret R.out.symm, hB.out⟩
                · by_cases e3 : Ob.pl ys j % 4 = 0
                  · have R := Lib.hid (Ob.before ho (show Ob.OkP (4 * (n : Int)) ys j from ⟨by omega, by omega, e3⟩))
                    clear ho hq hno
                    generalize Ob.pl ys j = x at *
                    go_wp2
                    go_roundw
                    case rel => exact ⟨j + 1, by omega, by go_num, R.out, by trivial⟩
                    case measure => simp [intOf]; omega
                  · have R := Lib.hid (hno (fun h => e3 h.2.2))
                    have e4 : (Ob.pl ys j % 4 != 0) = true := by simpa using e3
                    have e5 : (Ob.pl ys j % 4 == 0) = false := by simpa using e3
                    clear ho hq hno
                    generalize Ob.pl ys j = x at *
                    go_wp2
                    go_ret
                    exact ⟨Ob.ret R.out.symm, hB.out⟩
            · have d2 : ¬ (j : Int) < k := by omega
              have R := Lib.hid (hq.out.trans (Ob.may_0 hbig c6.out c7.out c8.out (by rw [hlw]; exact fun h hh => ho h (by omega))))
              clear ho hq
              go_wp2
              go_ret
              exact ⟨Ob.ret R.out.symm, hB.out⟩
end Go.Proofs.Ytpfgmfiegnkocaa
