import Derived.BigQuiet
import Derived.Deep.Cut
import Derived.Deep.MidRow
import Derived.Deep.RegionHeld3
import Derived.IntWalk
import Derived.Laws.AppendOwnNone
import Derived.Laws.BitsAllLaws
import Derived.Laws.CopyOwn
import Derived.Lib.Hide
import Derived.LoopTactic
import Derived.RowKit
import Derived.StillTailTactics
import Derived.Test.YtpfgmfiegnkocaaGreatRows
import Derived.WalkKit
import Derived.WalkLawsBesides
import Derived.WalkSpells
import Derived.Test.YtpfgmfiegnkocaaGreatQa
namespace Go.Proofs.YtpfgmfiegnkocaaGreat
open Go.RowKit
set_option linter.unusedVariables false
set_option linter.unusedSimpArgs false
set_option maxRecDepth 100000
theorem Ob.name_ok {ys : List Ob.Y} (h : L.name (L.bs (Ob.nm ys 0)) = true) : Ob.OkN ys 0 := ⟨h, Ob.lt_empty (Ob.good_size h)⟩
theorem Ob.before {Q : Nat → Prop} {k : Nat} (h : ∀ j, j < k → Q j) (hk : Q k) : ∀ j, j < k + 1 → Q j := fun j hj => by
 rcases Nat.lt_or_ge j k with c | c
 · exact h j c
 · rw [show j = k by omega]; exact hk
theorem Bel.drewWR {N : Nat} {a b : World} (h : Below N a b) : Below N a b.drew := ⟨h.os, h.tape, h.output, h.size, h.block⟩
set_option maxRecDepth 100000 in
set_option maxHeartbeats 4000000 in
theorem Ob.rmay_any {w : World} {A B C : Option Addr} {n c m d k e : Nat} {ws ss : List Int} {ys : List Ob.Y} (hW : Wo w A n c ws) (hS : In w B m d ss) (hY : Sy w C k e ys) (hsz : ∀ y ∈ ys, y.1.size ≤ 1000000) :
 Calls Tryz.prog 41 #[.agg #[.slice A n c, .slice B m d, .slice C k e]] w fun r w' => r = .returned (.int .i64 (Ob.may ws ss ys)) ∧ Below w.heap.size w w' := by
 have hO := Has.new #[.slice A n c, .slice B m d, .slice C k e] 33 w
 have hB := ((Kept.refl w).alloc #[.slice A n c, .slice B m d, .slice C k e] 33).below
 have hlw := hW.len
 have hls := hS.len
 have hly := hY.len
 have hle := hW.le
 have hmx := hW.max
 have hle2 := hY.le
 have hmx2 := hY.max
 have hle3 := hS.le
 have hmx3 := hS.max
 unfold maxLen at hmx hmx2 hmx3
 replace hW := Lib.hid (hW.below hB)
 replace hS := Lib.hid (hS.below hB)
 replace hY := Lib.hid (hY.below hB)
 obtain ⟨q, hq⟩ : ∃ q, q = Ob.may ws ss ys := ⟨_, rfl⟩
 rw [← hq]
 by_cases c1 : 1024 < n
 · have R := Lib.hid (hq.trans (Ob.may_2 (Or.inl (by omega))))
   have c2 : (n : Int) > 1024 := by omega
   clear hO hq
   replace hB := Lib.hid hB
   go_enter Tryz.func41, Tryz.ntmps41
   go_wp2
   go_ret
   exact ⟨Ob.ret R.out.symm, hB.out⟩
 have c2 : ¬ (n : Int) > 1024 := by omega
 by_cases c3 : 64 < k
 · have R := Lib.hid (hq.trans (Ob.may_2 (Or.inr (by omega))))
   have c4 : (k : Int) > 64 := by omega
   clear hO hq
   replace hB := Lib.hid hB
   go_enter Tryz.func41, Tryz.ntmps41
   go_wp2
   go_ret
   exact ⟨Ob.ret R.out.symm, hB.out⟩
 have c4 : ¬ (k : Int) > 64 := by omega
 have hbig : ¬ (1024 < ws.length ∨ 64 < ys.length) := by omega
 have hm1 : (m : Int) ≤ 9223372036854775807 := by omega
 have hk1 : (k : Int) ≤ 9223372036854775807 := by omega
 replace hq := Lib.hid hq
 replace hO := Lib.hid hO
 go_enter Tryz.func41, Tryz.ntmps41
 go_wp2_with (fail)
 generalize w.alloc (.cells #[.slice A n c, .slice B m d, .slice C k e] 33) = w1 at *
 refine (Ch.rise_any hS.out n (by omega)).mono ?_; rintro r w2 ⟨rfl, hE⟩
 replace hB := Lib.hid (hB.trans (hE.mono hB.size))
 replace hO := Lib.hid (hO.out.below hE)
 replace hW := Lib.hid (hW.out.below hE)
 replace hS := Lib.hid (hS.out.below hE)
 replace hY := Lib.hid (hY.out.below hE)
 clear hE
 by_cases c5 : Ch.Rises n ss
 case neg =>
  have R := Lib.hid (hq.out.trans (Ob.may_7 hbig (by rw [hlw]; exact c5)))
  rw [decide_eq_false c5]
  clear hO hq
  go_wp2
  go_ret
  exact ⟨Ob.ret R.out.symm, hB.out⟩
 have c6 : Ch.Rises ws.length ss := by rw [hlw]; exact c5
 rw [decide_eq_true c5]
 replace c5 := Lib.hid c5
 replace c6 := Lib.hid c6
 have hA : n = 0 ∨ ∃ b off, A = some ⟨b, off, none⟩ := (Nat.eq_zero_or_pos n).imp_right hW.out.place
 have hA' : m = 0 ∨ ∃ b off, B = some ⟨b, off, none⟩ := (Nat.eq_zero_or_pos m).imp_right hS.out.place
 have hA'' : k = 0 ∨ ∃ b off, C = some ⟨b, off, none⟩ := (Nat.eq_zero_or_pos k).imp_right hY.out.place
 go_wp2
 go_loopw [4] (fun i wr => ∃ j : Nat, j ≤ m ∧ i = .int .i64 j ∧ (∀ h, h < j → Ob.LowAt ws ss h) ∧ Below w2.heap.size w2 wr) (fun i _ => m - (intOf i).toNat)
 case atStart => exact ⟨0, Nat.zero_le _, rfl, fun j hj => by omega, Below.refl _ _⟩
 case round =>
  obtain ⟨j, hj, rfl, ho, hE⟩ := hrel
  have o0 := (hO.out.below hE).cell 0 (.slice A n c) rfl
  have o1 := (hO.out.below hE).cell 1 (.slice B m d) rfl
  by_cases d1 : j < m
  · have d2 : (j : Int) < m := by omega
    obtain ⟨s, hs1, hs2, hs3⟩ := Ch.site_nat c5.out j (by omega)
    rcases hA' with h0 | ⟨b', off', rfl⟩
    · omega
    rcases hA with h0 | ⟨b, off, rfl⟩
    · omega
    have g1 := (hS.out.below hE).at j d1
    have g2 := (hW.out.below hE).at s hs2
    rw [hs1] at g1
    have hv : Ch.val ws ss j = ws.getD s 0 := by unfold Ch.val; rw [hs1, Int.toNat_natCast]
    have hr := hW.out.atR (by omega) s
    have d3 : (s : Int) < n := by omega
    by_cases d4 : Ob.LowAt ws ss j
    · have R := Lib.hid (Ob.before ho d4)
      unfold Ob.LowAt at d4
      rw [hv, hlw] at d4
      clear ho hs1 hv
      generalize ws.getD s 0 = x at *
      replace hE := Lib.hid hE
      go_wp2
      go_quiet (fail)
      go_wp2
      go_roundw
      case rel => exact ⟨j + 1, by omega, by go_num, R.out, Bel.drewN hE.out nq⟩
      case measure => simp [intOf]; omega
    · have R := Lib.hid (hq.out.trans (Ob.may_8 hbig c6.out (fun h => d4 (h j (by omega)))))
      unfold Ob.LowAt at d4
      rw [hv, hlw] at d4
      clear ho hs1 hv hq
      generalize ws.getD s 0 = x at *
      replace hE := Lib.hid (hB.out.trans (hE.mono hB.out.size))
      go_wp2
      go_quiet (fail)
      go_wp2
      go_ret
      exact ⟨Ob.ret R.out.symm, Bel.drewN hE.out _⟩
  · have d2 : ¬ (j : Int) < m := by omega
    have c7 := Lib.hid (show Ob.Low ws ss from fun h hh => ho h (by omega))
    replace hB := Lib.hid (hB.out.trans (hE.mono hB.out.size))
    replace hO := Lib.hid (hO.out.below hE)
    replace hY := Lib.hid (hY.out.below hE)
    clear ho hE hW hS hA hA'
    go_wp2
    clear o0 o1
    rename World => w3
    go_loopw [5] (fun i wr => ∃ j : Nat, j ≤ k ∧ i = .int .i64 j ∧ (∀ h, h < j → Ob.OkN ys h) ∧ Below w3.heap.size w3 wr) (fun i _ => k - (intOf i).toNat)
    case atStart => exact ⟨0, Nat.zero_le _, rfl, fun j hj => by omega, Below.refl _ _⟩
    case round =>
     clear d1 d2 hj
     obtain ⟨j, hj, rfl, ho, hE⟩ := hrel
     have o2 := (hO.out.below hE).cell 2 (.slice C k e) rfl
     by_cases d1 : j < k
     · have d2 : (j : Int) < k := by omega
       rcases hA'' with h0 | ⟨b, off, rfl⟩
       · omega
       have g1 := (hY.out.below hE).name j d1
       have CN := Lib.hid (fun w => L.rname_any (Ob.nm ys j) (Ob.size_at hsz j) w)
       cases d3 : L.name (L.bs (Ob.nm ys j)) with
       | false =>
         have R := Lib.hid (hq.out.trans (Ob.may_9 hbig c6.out c7.out (fun h => by have := (h j (by omega)).1; rw [d3] at this; cases this)))
         rw [d3] at CN
         replace hE := Lib.hid (hB.out.trans (hE.mono hB.out.size))
         clear ho hq d3
         generalize Ob.nm ys j = x at *
         go_wp2_with (fail)
         refine WS.start 27 (by kernel_rfl) (by kernel_rfl) ?_
         intro w5 hw5
         replace g1 := (show wr.drew.cell? _ = some _ from g1)
         rw [← hw5] at g1
         replace o2 := (show wr.drew.cell? _ = some _ from o2)
         rw [← hw5] at o2
         replace hE := Lib.hid (show Below _ _ w5 by rw [hw5]; exact Bel.drewWR hE.out)
         clear hw5
         simp only [List.take_succ_cons, List.take_zero, List.drop_succ_cons, List.drop_zero]
         refine WS.step rfl (fun K hK => ?_); go_simp; refine hK _ ?_; clear hK K
         refine WS.step rfl (fun K hK => ?_); go_simp; refine hK _ ?_; clear hK K
         refine WS.step rfl (fun K hK => ?_); go_simp; refine hK _ ?_; clear hK K
         refine WS.step rfl (fun K hK => ?_); go_simp; refine hK _ ?_; clear hK K
         refine WS.step rfl (fun K hK => ?_); go_simp; refine hK _ ?_; clear hK K
         refine WS.step rfl (fun K hK => ?_); go_simp; refine hK _ ?_; clear hK K
         refine WS.step rfl (fun K hK => ?_); go_simp; refine ⟨_, ((CN.out _).mono fun _ _ h => ⟨h.1, h.2.symm⟩), hK _ ?_⟩; clear hK K
         refine WS.step rfl (fun K hK => ?_); go_simp; refine hK _ ?_; clear hK K
         refine WS.step rfl (fun K hK => ?_); go_simp; refine hK _ ?_; clear hK K
         refine WS.skip rfl ?_
         try simp only [Act.put, pq]
         refine WS.skip rfl ?_
         try simp only [Act.put, pq]
         refine WS.skip rfl ?_
         try simp only [Act.put, pq]
         refine WS.skip rfl ?_
         try simp only [Act.put, pq]
         refine WS.skip rfl ?_
         try simp only [Act.put, pq]
         refine WS.skip rfl ?_
         try simp only [Act.put, pq]
         refine WS.skip rfl ?_
         try simp only [Act.put, pq]
         refine WS.skip rfl ?_
         try simp only [Act.put, pq]
         refine WS.skip rfl ?_
         try simp only [Act.put, pq]
         refine WS.skip rfl ?_
         try simp only [Act.put, pq]
         refine WS.skip rfl ?_
         try simp only [Act.put, pq]
         refine WS.skip rfl ?_
         try simp only [Act.put, pq]
         refine WS.skip rfl ?_
         try simp only [Act.put, pq]
         refine WS.skip rfl ?_
         try simp only [Act.put, pq]
         refine WS.skip rfl ?_
         try simp only [Act.put, pq]
         refine WS.skip rfl ?_
         try simp only [Act.put, pq]
         refine WS.skip rfl ?_
         try simp only [Act.put, pq]
         refine WS.skip rfl ?_
         try simp only [Act.put, pq]
         refine WS.nil ?_
         go_wp2
         go_ret
         exact ⟨Ob.ret R.out.symm, hE.out⟩
       | true =>
         rw [d3] at CN
         cases j with
         | zero =>
           have R := Lib.hid (Ob.before ho (Ob.name_ok d3))
           replace hE := Lib.hid hE
           clear ho d3
           generalize Ob.nm ys 0 = x at *
           rw [Nat.zero_mul, Nat.add_zero] at g1
           go_wp2_with (fail)
           refine WS.start 27 (by kernel_rfl) (by kernel_rfl) ?_
           intro w5 hw5
           replace g1 := (show wr.drew.cell? _ = some _ from g1)
           rw [← hw5] at g1
           replace o2 := (show wr.drew.cell? _ = some _ from o2)
           rw [← hw5] at o2
           replace hE := Lib.hid (show Below _ _ w5 by rw [hw5]; exact Bel.drewWR hE.out)
           clear hw5
           simp only [List.take_succ_cons, List.take_zero, List.drop_succ_cons, List.drop_zero]
           refine WS.step rfl (fun K hK => ?_); go_simp; refine hK _ ?_; clear hK K
           refine WS.step rfl (fun K hK => ?_); go_simp; refine hK _ ?_; clear hK K
           refine WS.step rfl (fun K hK => ?_); go_simp; refine hK _ ?_; clear hK K
           refine WS.step rfl (fun K hK => ?_); go_simp; refine hK _ ?_; clear hK K
           refine WS.step rfl (fun K hK => ?_); go_simp; refine hK _ ?_; clear hK K
           refine WS.step rfl (fun K hK => ?_); go_simp; refine hK _ ?_; clear hK K
           refine WS.step rfl (fun K hK => ?_); go_simp; refine ⟨_, ((CN.out _).mono fun _ _ h => ⟨h.1, h.2.symm⟩), hK _ ?_⟩; clear hK K
           refine WS.step rfl (fun K hK => ?_); go_simp; refine hK _ ?_; clear hK K
           refine WS.step rfl (fun K hK => ?_); go_simp; refine hK _ ?_; clear hK K
           refine WS.want rfl (fun K hK => ?_); go_simp; refine hK _ ?_; clear hK K
           refine WS.want rfl (fun K hK => ?_); go_simp; refine hK _ ?_; clear hK K
           refine WS.want rfl (fun K hK => ?_); go_simp; refine hK _ ?_; clear hK K
           refine WS.skip rfl ?_
           try simp only [Act.put, pq]
           refine WS.skip rfl ?_
           try simp only [Act.put, pq]
           refine WS.skip rfl ?_
           try simp only [Act.put, pq]
           refine WS.skip rfl ?_
           try simp only [Act.put, pq]
           refine WS.skip rfl ?_
           try simp only [Act.put, pq]
           refine WS.skip rfl ?_
           try simp only [Act.put, pq]
           refine WS.skip rfl ?_
           try simp only [Act.put, pq]
           refine WS.skip rfl ?_
           try simp only [Act.put, pq]
           refine WS.skip rfl ?_
           try simp only [Act.put, pq]
           refine WS.skip rfl ?_
           try simp only [Act.put, pq]
           refine WS.skip rfl ?_
           try simp only [Act.put, pq]
           refine WS.skip rfl ?_
           try simp only [Act.put, pq]
           refine WS.skip rfl ?_
           try simp only [Act.put, pq]
           refine WS.skip rfl ?_
           try simp only [Act.put, pq]
           refine WS.want rfl (fun K hK => ?_); go_simp; refine hK _ ?_; clear hK K
           refine WS.nil ?_
           go_wp2
           go_roundw
           case rel => exact ⟨1, by omega, by go_num, R.out, hE.out⟩
           case measure => simp [intOf]; omega
         | succ j =>
           have g2 := (hY.out.below hE).name j (by omega)
           have d5 : (0 : Int) < (j : Int) + 1 := by omega
           have q5 : decide ((0 : Int) < (j : Int) + 1) = true := decide_eq_true d5
           have q6 : (0 ≤ (j : Int) + 1) = True := eq_true (by omega)
           have q7 : IntKind.i64.wrap (j : Int) = j := by rw [IntKind.wrap_i64]; omega
           have d6 : (j : Int) < k := by omega
           cases d4 : Ob.bl (Ob.nm ys j) (Ob.nm ys (j + 1)) with
           | true =>
             have R := Lib.hid (Ob.before ho ⟨d3, d4⟩)
             have q4 := Ob.le_not d4
             replace hE := Lib.hid hE
             clear ho d3 d4
             generalize Ob.nm ys (j + 1) = x at *
             generalize Ob.nm ys j = y at *
             go_wp2_with (fail)
             refine WS.start 27 (by kernel_rfl) (by kernel_rfl) ?_
             intro w5 hw5
             replace g1 := (show wr.drew.cell? _ = some _ from g1)
             rw [← hw5] at g1
             replace g2 := (show wr.drew.cell? _ = some _ from g2)
             rw [← hw5] at g2
             replace o2 := (show wr.drew.cell? _ = some _ from o2)
             rw [← hw5] at o2
             replace hE := Lib.hid (show Below _ _ w5 by rw [hw5]; exact Bel.drewWR hE.out)
             clear hw5
             simp only [List.take_succ_cons, List.take_zero, List.drop_succ_cons, List.drop_zero]
             refine WS.step rfl (fun K hK => ?_); go_simp; (try (simp only [q4, q5, q6, q7, if_true]; (try go_simp))); refine hK _ ?_; clear hK K
             refine WS.step rfl (fun K hK => ?_); go_simp; (try (simp only [q4, q5, q6, q7, if_true]; (try go_simp))); refine hK _ ?_; clear hK K
             refine WS.step rfl (fun K hK => ?_); go_simp; (try (simp only [q4, q5, q6, q7, if_true]; (try go_simp))); refine hK _ ?_; clear hK K
             refine WS.step rfl (fun K hK => ?_); go_simp; (try (simp only [q4, q5, q6, q7, if_true]; (try go_simp))); refine hK _ ?_; clear hK K
             refine WS.step rfl (fun K hK => ?_); go_simp; (try (simp only [q4, q5, q6, q7, if_true]; (try go_simp))); refine hK _ ?_; clear hK K
             refine WS.step rfl (fun K hK => ?_); go_simp; (try (simp only [q4, q5, q6, q7, if_true]; (try go_simp))); refine hK _ ?_; clear hK K
             refine WS.step rfl (fun K hK => ?_); go_simp; refine ⟨_, ((CN.out _).mono fun _ _ h => ⟨h.1, h.2.symm⟩), hK _ ?_⟩; clear hK K
             refine WS.step rfl (fun K hK => ?_); go_simp; (try (simp only [q4, q5, q6, q7, if_true]; (try go_simp))); refine hK _ ?_; clear hK K
             refine WS.step rfl (fun K hK => ?_); go_simp; (try (simp only [q4, q5, q6, q7, if_true]; (try go_simp))); refine hK _ ?_; clear hK K
             refine WS.want rfl (fun K hK => ?_); go_simp; (try (simp only [q4, q5, q6, q7, if_true]; (try go_simp))); refine hK _ ?_; clear hK K
             refine WS.want rfl (fun K hK => ?_); go_simp; (try (simp only [q4, q5, q6, q7, if_true]; (try go_simp))); refine hK _ ?_; clear hK K
             refine WS.want rfl (fun K hK => ?_); go_simp; (try (simp only [q4, q5, q6, q7, if_true]; (try go_simp))); refine hK _ ?_; clear hK K
             refine WS.want rfl (fun K hK => ?_); go_simp; (try (simp only [q4, q5, q6, q7, if_true]; (try go_simp))); refine hK _ ?_; clear hK K
             refine WS.want rfl (fun K hK => ?_); go_simp; (try (simp only [q4, q5, q6, q7, if_true]; (try go_simp))); refine hK _ ?_; clear hK K
             refine WS.want rfl (fun K hK => ?_); go_simp; (try (simp only [q4, q5, q6, q7, if_true]; (try go_simp))); refine hK _ ?_; clear hK K
             refine WS.want rfl (fun K hK => ?_); go_simp; (try (simp only [q4, q5, q6, q7, if_true]; (try go_simp))); refine hK _ ?_; clear hK K
             refine WS.want rfl (fun K hK => ?_); go_simp; (try (simp only [q4, q5, q6, q7, if_true]; (try go_simp))); refine hK _ ?_; clear hK K
             refine WS.want rfl (fun K hK => ?_); go_simp; (try (simp only [q4, q5, q6, q7, if_true]; (try go_simp))); refine hK _ ?_; clear hK K
             refine WS.want rfl (fun K hK => ?_); go_simp; (try (simp only [q4, q5, q6, q7, if_true]; (try go_simp))); refine hK _ ?_; clear hK K
             refine WS.want rfl (fun K hK => ?_); go_simp; (try (simp only [q4, q5, q6, q7, if_true]; (try go_simp))); refine hK _ ?_; clear hK K
             refine WS.want rfl (fun K hK => ?_); go_simp; (try (simp only [q4, q5, q6, q7, if_true]; (try go_simp))); refine hK _ ?_; clear hK K
             refine WS.want rfl (fun K hK => ?_); go_simp; (try (simp only [q4, q5, q6, q7, if_true]; (try go_simp))); refine hK _ ?_; clear hK K
             refine WS.want rfl (fun K hK => ?_); go_simp; (try (simp only [q4, q5, q6, q7, if_true]; (try go_simp))); refine hK _ ?_; clear hK K
             refine WS.want rfl (fun K hK => ?_); go_simp; (try (simp only [q4, q5, q6, q7, if_true]; (try go_simp))); refine hK _ ?_; clear hK K
             refine WS.want rfl (fun K hK => ?_); go_simp; (try (simp only [q4, q5, q6, q7, if_true]; (try go_simp))); refine hK _ ?_; clear hK K
             refine WS.want rfl (fun K hK => ?_); go_simp; (try (simp only [q4, q5, q6, q7, if_true]; (try go_simp))); refine hK _ ?_; clear hK K
             refine WS.want rfl (fun K hK => ?_); go_simp; (try (simp only [q4, q5, q6, q7, if_true]; (try go_simp))); refine hK _ ?_; clear hK K
             refine WS.nil ?_
             go_wp2
             go_roundw
             case rel => exact ⟨j + 1 + 1, by omega, by go_num, R.out, hE.out⟩
             case measure => simp [intOf]; omega
           | false =>
             have R := Lib.hid (hq.out.trans (Ob.may_9 hbig c6.out c7.out (fun h => by have := (h (j + 1) (by omega)).2; rw [show Ob.pr ys (j + 1) = Ob.nm ys j from rfl, d4] at this; cases this)))
             have q4 := Ob.le_yes d4
             replace hE := Lib.hid (hB.out.trans (hE.mono hB.out.size))
             clear ho hq d3 d4
             generalize Ob.nm ys (j + 1) = x at *
             generalize Ob.nm ys j = y at *
             go_wp2_with (fail)
             refine WS.start 27 (by kernel_rfl) (by kernel_rfl) ?_
             intro w5 hw5
             replace g1 := (show wr.drew.cell? _ = some _ from g1)
             rw [← hw5] at g1
             replace g2 := (show wr.drew.cell? _ = some _ from g2)
             rw [← hw5] at g2
             replace o2 := (show wr.drew.cell? _ = some _ from o2)
             rw [← hw5] at o2
             replace hE := Lib.hid (show Below _ _ w5 by rw [hw5]; exact Bel.drewWR hE.out)
             clear hw5
             simp only [List.take_succ_cons, List.take_zero, List.drop_succ_cons, List.drop_zero]
             refine WS.step rfl (fun K hK => ?_); go_simp; (try (simp only [q4, q5, q6, q7, if_true]; (try go_simp))); refine hK _ ?_; clear hK K
             refine WS.step rfl (fun K hK => ?_); go_simp; (try (simp only [q4, q5, q6, q7, if_true]; (try go_simp))); refine hK _ ?_; clear hK K
             refine WS.step rfl (fun K hK => ?_); go_simp; (try (simp only [q4, q5, q6, q7, if_true]; (try go_simp))); refine hK _ ?_; clear hK K
             refine WS.step rfl (fun K hK => ?_); go_simp; (try (simp only [q4, q5, q6, q7, if_true]; (try go_simp))); refine hK _ ?_; clear hK K
             refine WS.step rfl (fun K hK => ?_); go_simp; (try (simp only [q4, q5, q6, q7, if_true]; (try go_simp))); refine hK _ ?_; clear hK K
             refine WS.step rfl (fun K hK => ?_); go_simp; (try (simp only [q4, q5, q6, q7, if_true]; (try go_simp))); refine hK _ ?_; clear hK K
             refine WS.step rfl (fun K hK => ?_); go_simp; refine ⟨_, ((CN.out _).mono fun _ _ h => ⟨h.1, h.2.symm⟩), hK _ ?_⟩; clear hK K
             refine WS.step rfl (fun K hK => ?_); go_simp; (try (simp only [q4, q5, q6, q7, if_true]; (try go_simp))); refine hK _ ?_; clear hK K
             refine WS.step rfl (fun K hK => ?_); go_simp; (try (simp only [q4, q5, q6, q7, if_true]; (try go_simp))); refine hK _ ?_; clear hK K
             refine WS.want rfl (fun K hK => ?_); go_simp; (try (simp only [q4, q5, q6, q7, if_true]; (try go_simp))); refine hK _ ?_; clear hK K
             refine WS.want rfl (fun K hK => ?_); go_simp; (try (simp only [q4, q5, q6, q7, if_true]; (try go_simp))); refine hK _ ?_; clear hK K
             refine WS.want rfl (fun K hK => ?_); go_simp; (try (simp only [q4, q5, q6, q7, if_true]; (try go_simp))); refine hK _ ?_; clear hK K
             refine WS.want rfl (fun K hK => ?_); go_simp; (try (simp only [q4, q5, q6, q7, if_true]; (try go_simp))); refine hK _ ?_; clear hK K
             refine WS.want rfl (fun K hK => ?_); go_simp; (try (simp only [q4, q5, q6, q7, if_true]; (try go_simp))); refine hK _ ?_; clear hK K
             refine WS.want rfl (fun K hK => ?_); go_simp; (try (simp only [q4, q5, q6, q7, if_true]; (try go_simp))); refine hK _ ?_; clear hK K
             refine WS.want rfl (fun K hK => ?_); go_simp; (try (simp only [q4, q5, q6, q7, if_true]; (try go_simp))); refine hK _ ?_; clear hK K
             refine WS.want rfl (fun K hK => ?_); go_simp; (try (simp only [q4, q5, q6, q7, if_true]; (try go_simp))); refine hK _ ?_; clear hK K
             refine WS.want rfl (fun K hK => ?_); go_simp; (try (simp only [q4, q5, q6, q7, if_true]; (try go_simp))); refine hK _ ?_; clear hK K
             refine WS.want rfl (fun K hK => ?_); go_simp; (try (simp only [q4, q5, q6, q7, if_true]; (try go_simp))); refine hK _ ?_; clear hK K
             refine WS.want rfl (fun K hK => ?_); go_simp; (try (simp only [q4, q5, q6, q7, if_true]; (try go_simp))); refine hK _ ?_; clear hK K
             refine WS.want rfl (fun K hK => ?_); go_simp; (try (simp only [q4, q5, q6, q7, if_true]; (try go_simp))); refine hK _ ?_; clear hK K
             refine WS.want rfl (fun K hK => ?_); go_simp; (try (simp only [q4, q5, q6, q7, if_true]; (try go_simp))); refine hK _ ?_; clear hK K
             refine WS.want rfl (fun K hK => ?_); go_simp; (try (simp only [q4, q5, q6, q7, if_true]; (try go_simp))); refine hK _ ?_; clear hK K
             refine WS.want rfl (fun K hK => ?_); go_simp; (try (simp only [q4, q5, q6, q7, if_true]; (try go_simp))); refine hK _ ?_; clear hK K
             refine WS.want rfl (fun K hK => ?_); go_simp; (try (simp only [q4, q5, q6, q7, if_true]; (try go_simp))); refine hK _ ?_; clear hK K
             refine WS.want rfl (fun K hK => ?_); go_simp; (try (simp only [q4, q5, q6, q7, if_true]; (try go_simp))); refine hK _ ?_; clear hK K
             refine WS.want rfl (fun K hK => ?_); go_simp; (try (simp only [q4, q5, q6, q7, if_true]; (try go_simp))); refine hK _ ?_; clear hK K
             refine WS.nil ?_
             go_wp2
             go_ret
             exact ⟨Ob.ret R.out.symm, hE.out⟩
     · have d2 : ¬ (j : Int) < k := by omega
       have c8 := Lib.hid (show Ob.Names ys from fun h hh => ho h (by omega))
       replace hB := Lib.hid (hB.out.trans (hE.mono hB.out.size))
       replace hO := Lib.hid (hO.out.below hE)
       replace hY := Lib.hid (hY.out.below hE)
       clear ho hE
       go_wp2
       clear o2
       rename World => w4
       go_loopw [6, 7] (fun i _ wr => ∃ j : Nat, j ≤ k ∧ i = .int .i64 j ∧ (∀ h, h < j → Ob.OkP (4 * (n : Int)) ys h) ∧ w4 = wr) (fun i _ _ => k - (intOf i).toNat)
       case atStart => exact ⟨0, Nat.zero_le _, rfl, fun j hj => by omega, rfl⟩
       case round =>
        clear d1 d2 hj
        obtain ⟨j, hj, rfl, ho, rfl⟩ := hrel
        have o2 := hO.out.cell 2 (.slice C k e) rfl
        by_cases d1 : j < k
        · have d2 : (j : Int) < k := by omega
          rcases hA'' with h0 | ⟨b, off, rfl⟩
          · omega
          have g1 := hY.out.at j d1
          have hno : ¬ Ob.OkP (4 * (n : Int)) ys j → q = 8 := fun h => hq.out.trans (Ob.may_88 hbig c6.out c7.out c8.out (fun h' => h (by have := h' j (by omega); rw [hlw] at this; exact this)))
          by_cases e1 : Ob.pl ys j < 0
          · have R := Lib.hid (hno (fun h => by have := h.1; omega))
            clear ho hq hno
            generalize Ob.pl ys j = x at *
            go_wp2
            go_ret
            exact ⟨Ob.ret R.out.symm, hB.out⟩
          · by_cases e2 : 4 * (n : Int) < Ob.pl ys j
            · have R := Lib.hid (hno (fun h => by have := h.2.1; omega))
              clear ho hq hno
              generalize Ob.pl ys j = x at *
              go_wp2
              go_ret
              exact ⟨Ob.ret R.out.symm, hB.out⟩
            · by_cases e3 : Ob.pl ys j % 4 = 0
              · have R := Lib.hid (Ob.before ho (show Ob.OkP (4 * (n : Int)) ys j from ⟨by omega, by omega, e3⟩))
                clear ho hq hno
                generalize Ob.pl ys j = x at *
                go_wp2
                go_roundw
                case rel => exact ⟨j + 1, by omega, by go_num, R.out, by trivial⟩
                case measure => simp [intOf]; omega
              · have R := Lib.hid (hno (fun h => e3 h.2.2))
                have e4 : (Ob.pl ys j % 4 != 0) = true := by simpa using e3
                have e5 : (Ob.pl ys j % 4 == 0) = false := by simpa using e3
                clear ho hq hno
                generalize Ob.pl ys j = x at *
                go_wp2
                go_ret
                exact ⟨Ob.ret R.out.symm, hB.out⟩
        · have d2 : ¬ (j : Int) < k := by omega
          have R := Lib.hid (hq.out.trans (Ob.may_0 hbig c6.out c7.out c8.out (by rw [hlw]; exact fun h hh => ho h (by omega))))
          clear ho hq
          go_wp2
          go_ret
          exact ⟨Ob.ret R.out.symm, hB.out⟩
theorem Ob.info39 : (Tryz.prog.info? 61).map (fun i => (i.zero, i.size, i.bytes)) = some (some (.agg #[.string ⟨#[]⟩, .int .i64 0]), 2, 24) := by kernel_rfl
theorem Ob.info26 (x y z : Value) : (Tryz.prog.info? 33).map (·.size) = some (#[x, y, z] : Array Value).size := by
 show (Tryz.prog.info? 33).map (·.size) = some 3
 kernel_rfl
theorem Ob.oneS (A B C : Option Addr) (n c m d k e : Nat) : (#[.slice A n c, .slice B m d, .slice C k e] : Array Value).all (·.oneCell') = true := by
 have h : ∀ (A : Option Addr) (n c : Nat), (Value.slice A n c).oneCell' = true := fun _ _ _ => rfl
 simp [h]
theorem Has.grown {B : Nat} {cs : Array Value} {t : TypeId} {w w' : World} {row : Option Nat} (h : Has B cs t w) (hg : w.grownBy w' row) (hr : ∀ q, row = some q → q ≠ B) : Has B cs t w' :=
 (hg.block B h.lt (fun e => hr B e.symm rfl)).trans h
theorem Has.typ {B : Nat} {cs cs' : Array Value} {t t' : TypeId} {w : World} (h : Has B cs t w) (h' : Has B cs' t' w) : t = t' := by
 unfold Has at h h'
 rw [h] at h'
 simp only [Option.some.injEq, Obj.cells.injEq] at h'
 exact h'.2.1
theorem Os.ne {e : TypeId} {base n c B : Nat} {A : Option Addr} {ys : List Ob.Y} {w : World} {cs : Array Value} {t : TypeId} (h : Os e base A n c ys w) (hB : Has B cs t w) (ht : t ≠ e) : ∀ q, (Value.slice A n c).ownBlock = some q → q ≠ B := fun q hq => by
 rcases h.cases with ⟨rfl, _⟩ | ⟨g, rfl, h⟩
 · cases hq
 · cases hq
   obtain ⟨_, _, _, _, cur, hh, _⟩ := h.has
   rintro rfl
   exact ht (hB.typ hh)
theorem On.ne {e : TypeId} {k : IntKind} {base n c B : Nat} {A : Option Addr} {xs : List Int} {w : World} {cs : Array Value} {t : TypeId} (h : On e k base A n c xs w) (hB : Has B cs t w) (ht : t ≠ e) : ∀ q, (Value.slice A n c).ownBlock = some q → q ≠ B := fun q hq => by
 rcases h.cases with ⟨rfl, _⟩ | ⟨g, rfl, h⟩
 · cases hq
 · cases hq
   have h : Ow e k base g n c xs w := h
   obtain ⟨_, _, _, _, cur, hh, _⟩ := h.has
   rintro rfl
   exact ht (hB.typ hh)
theorem Os.other {e : TypeId} {base n c B : Nat} {A : Option Addr} {ys : List Ob.Y} {w : World} {cs : Array Value} {t : TypeId} (h : Os e base A n c ys w) (hB : Has B cs t w) (ht : t ≠ e) (j : Nat) (v : Value) : Os e base A n c ys (w.setCell ⟨B, j, Option.none⟩ v) := by
 have hne := h.ne hB ht
 rcases h.cases with ⟨rfl, rfl, rfl, rfl⟩ | ⟨g, rfl, h⟩
 · exact Os.none _ _ _
 · obtain ⟨h1, h2, h3, h4, cur, h5, h6, h7⟩ := h.has
   exact Os.mk' h1 h2 h3 h4 cur (h5.other (hne g rfl) v) h6 h7
theorem On.other {e : TypeId} {k : IntKind} {base n c B : Nat} {A : Option Addr} {xs : List Int} {w : World} {cs : Array Value} {t : TypeId} (h : On e k base A n c xs w) (hB : Has B cs t w) (ht : t ≠ e) (j : Nat) (v : Value) : On e k base A n c xs (w.setCell ⟨B, j, Option.none⟩ v) := by
 have hne := h.ne hB ht
 rcases h.cases with ⟨rfl, rfl, rfl, rfl⟩ | ⟨g, rfl, h⟩
 · exact On.none _ _ _ _
 · have h : Ow e k base g n c xs w := h
   obtain ⟨h1, h2, h3, h4, cur, h5, h6, h7⟩ := h.has
   exact (Ow.mk' h1 h2 h3 h4 cur (h5.other (hne g rfl) v) h6 h7).on
theorem Os.otherRow {e : TypeId} {base n c B : Nat} {A : Option Addr} {ys : List Ob.Y} {w : World} {cs : Array Value} {t : TypeId} (h : Os e base A n c ys w) (hB : Has B cs t w) (ht : t ≠ e) (cs' : Array Value) : Os e base A n c ys (w.setRow B cs') := by
 have hne := h.ne hB ht
 rcases h.cases with ⟨rfl, rfl, rfl, rfl⟩ | ⟨g, rfl, h⟩
 · exact Os.none _ _ _
 · obtain ⟨h1, h2, h3, h4, cur, h5, h6, h7⟩ := h.has
   exact Os.mk' h1 h2 h3 h4 cur (h5.rowOther (hne g rfl) cs') h6 h7
theorem On.otherRow {e : TypeId} {k : IntKind} {base n c B : Nat} {A : Option Addr} {xs : List Int} {w : World} {cs : Array Value} {t : TypeId} (h : On e k base A n c xs w) (hB : Has B cs t w) (ht : t ≠ e) (cs' : Array Value) : On e k base A n c xs (w.setRow B cs') := by
 have hne := h.ne hB ht
 rcases h.cases with ⟨rfl, rfl, rfl, rfl⟩ | ⟨g, rfl, h⟩
 · exact On.none _ _ _ _
 · have h : Ow e k base g n c xs w := h
   obtain ⟨h1, h2, h3, h4, cur, h5, h6, h7⟩ := h.has
   exact (Ow.mk' h1 h2 h3 h4 cur (h5.rowOther (hne g rfl) cs') h6 h7).on
theorem Bel.setRow {N B : Nat} {a b : World} (h : Below N a b) (hB : N ≤ B) (cs : Array Value) : Below N a (b.setRow B cs) :=
 h.trans ⟨rfl, rfl, rfl, by simp [World.setRow], fun k hk => setRow_other b B k cs (by omega)⟩
def Ob.cut (s : ByteArray) : ByteArray := if s.size ≤ 20 then s else s.extract 0 20
def Ob.cuts (ys : List Ob.Y) (k : Nat) : List Ob.Y := (ys.take k).map fun y => (Ob.cut y.1, y.2)
theorem L.info32 : (Tryz.prog.info? 43).map (fun i => (i.zero, i.size, i.bytes)) = some (some (.int .u32 0), 1, 4) := by kernel_rfl
theorem made_at (z : Value) (n j : Nat) (hj : j < n) : (madeCells #[z] n)[j]? = some z := by
 unfold madeCells
 simp [hj, Nat.mod_one]
theorem Ow.full (e : TypeId) (k : IntKind) (w : World) (m : Nat) (hm : m ≤ maxLen) : Ow e k w.heap.size w.heap.size m m (List.replicate m 0) (w.alloc (.cells (madeCells #[.int k 0] m) e)) := by
 refine Ow.mk' (Nat.le_refl _) (Nat.le_refl _) hm (by simp) _ (heap_alloc_last _ _) (by simp [size_madeCells]) ?_
 apply List.ext_getElem
 · simp [size_madeCells]
 · intro i h1 h2
   have := made_at (.int k 0) m i (by simpa using h2)
   rw [Array.getElem?_eq_getElem (by simp [size_madeCells]; simpa using h2)] at this
   simp only [List.getElem_take, Array.getElem_toList, List.getElem_map, List.getElem_replicate]
   exact Option.some.inj this
theorem Rw.one {k : IntKind} {L : Int} {w : World} {g : Nat} {x : Int} {t : TypeId} (h : Has g #[.int k x] t w) (h0 : 0 ≤ x) (h1 : x < L) : Rw k L w (some ⟨g, 0, none⟩) 1 1 [x] :=
 ⟨rfl, Nat.le_refl _, by simp [maxLen], by simp, by simpa using ⟨h0, h1⟩, fun ad e j y hy => by
  cases e
  match j, hy with
  | 0, hy => simp at hy; subst hy; exact h.cell 0 _ rfl⟩
def L.acc (bs : List Int) (p : Nat) : Nat → Int
 | 0 => 0
 | j + 1 => L.acc bs p j + bs.getD (p + j) 0 * 2 ^ (8 * j)
def L.hi (bs : List Int) (p : Nat) : Nat → Int
 | 0 => 0
 | j + 1 => L.hi bs p j * 256 + bs.getD (p + (3 - j)) 0
section
variable {P : Program} {ops : Array Oper} {rest : List Oper} {o : Oper} {a : Act} {Q : Exit → Act → World → Prop} {w : World}
end
structure L.Fits (t : ByteArray) (k : Nat) : Prop where
 len : t.size = 1 + k
 low : ∃ x xs, L.bs t = x :: xs ∧ 97 ≤ x ∧ x ≤ 122
 part : (L.bs t).all L.part = true
theorem L.Fits.name {t : ByteArray} {k : Nat} (h : L.Fits t k) (hk : k ≤ 6) : L.name (L.bs t) = true := by
 obtain ⟨x, xs, e, h1, h2⟩ := h.low
 have hl := L.bs_len t
 have hg : (L.bs t).getD 0 0 = x := by rw [e]; rfl
 have hs := h.len
 rw [L.name_yes (by omega) (by omega) ?_ ?_]
 · exact h.part
 · rw [hg]; unfold L.letter; simp [h1, h2]
 · exact L.reg_no (Or.inr (Or.inr (by rw [hg]; omega)))
theorem L.bs_append (s t : ByteArray) : L.bs (s ++ t) = L.bs s ++ L.bs t := by
 unfold L.bs
 rw [← List.map_append]
 simp
def L.alls : ByteArray := ⟨#[97, 98, 99, 88, 89, 90, 95, 48, 49, 57, 82, 109]⟩
theorem L.alls_at : ∀ k, k < 12 → (L.bs (L.alls.extract k (k + 1))).all L.part = true ∧ (L.alls.extract k (k + 1)).size = 1
 | 0, _ => by decide
 | 1, _ => by decide
 | 2, _ => by decide
 | 3, _ => by decide
 | 4, _ => by decide
 | 5, _ => by decide
 | 6, _ => by decide
 | 7, _ => by decide
 | 8, _ => by decide
 | 9, _ => by decide
 | 10, _ => by decide
 | 11, _ => by decide
theorem L.Fits.more {t u : ByteArray} {k : Nat} (h : L.Fits t k) (h1 : (L.bs u).all L.part = true) (h2 : u.size = 1) : L.Fits (t ++ u) (k + 1) := by
 obtain ⟨x, xs, e, h3, h4⟩ := h.low
 refine ⟨by rw [ByteArray.size_append, h.len, h2]; omega, ⟨x, xs ++ L.bs u, by rw [L.bs_append, e]; rfl, h3, h4⟩, ?_⟩
 rw [L.bs_append, List.all_append, h.part, h1]; rfl
theorem L.Fits.one (x : Int) (h1 : 97 ≤ x) (h2 : x ≤ 122) : L.Fits (strOfNums [x]) 0 := by
 have e := L.bs_str [x] (by simp; omega)
 refine ⟨by rw [strOfNums_size]; rfl, ⟨x, [], e, h1, h2⟩, ?_⟩
 rw [e]
 simp [L.part, L.letter, h1, h2]
def L.tnV (bs : List Int) : Value := .tuple #[.string (strOfNums (L.tnS bs)), .int .i64 (L.tnN bs), .int .i64 (L.tnE bs)]
def L.fitK (s : ByteArray) : Nat → ByteArray
 | 0 => strOfNums [97 + (s.size : Int) % 26]
 | k + 1 => L.fitK s k ++ L.alls.extract ((L.bs s).getD k 0 % 12).toNat (((L.bs s).getD k 0 % 12).toNat + 1)
def L.fitS (s : ByteArray) : ByteArray := L.fitK s (min s.size 6)
theorem L.fitK_fits (s : ByteArray) : ∀ k, L.Fits (L.fitK s k) k
 | 0 => L.Fits.one (97 + (s.size : Int) % 26) (by omega) (by omega)
 | k + 1 => by
   have h : ((L.bs s).getD k 0 % 12).toNat < 12 := by omega
   obtain ⟨a1, a2⟩ := L.alls_at _ h
   exact (L.fitK_fits s k).more a1 a2
theorem L.alls_low : ∀ k, k < 12 → ∀ x ∈ L.bs (L.alls.extract k (k + 1)), x < 122
 | 0, _ => by decide
 | 1, _ => by decide
 | 2, _ => by decide
 | 3, _ => by decide
 | 4, _ => by decide
 | 5, _ => by decide
 | 6, _ => by decide
 | 7, _ => by decide
 | 8, _ => by decide
 | 9, _ => by decide
 | 10, _ => by decide
 | 11, _ => by decide
theorem L.fitK_low (s : ByteArray) : ∀ k, ∃ x xs, L.bs (L.fitK s k) = x :: xs ∧ x ≤ 122 ∧ ∀ y ∈ xs, y < 122
 | 0 => ⟨97 + (s.size : Int) % 26, [], L.bs_str _ (by simp; omega), by omega, by simp⟩
 | k + 1 => by
   obtain ⟨x, xs, e, h1, h2⟩ := L.fitK_low s k
   have h : ((L.bs s).getD k 0 % 12).toNat < 12 := by omega
   refine ⟨x, xs ++ L.bs (L.alls.extract ((L.bs s).getD k 0 % 12).toNat (((L.bs s).getD k 0 % 12).toNat + 1)), by rw [show L.fitK s (k + 1) = L.fitK s k ++ _ from rfl, L.bs_append, e]; rfl, h1, fun y hy => ?_⟩
   rcases List.mem_append.1 hy with q | q
   · exact h2 y q
   · exact L.alls_low _ h y q
theorem L.fitS_good (s : ByteArray) : Ob.Good (L.fitS s) := (L.fitK_fits s _).name (by omega)
theorem L.fitS_size (s : ByteArray) : (L.fitS s).size ≤ 7 := by
 have := (L.fitK_fits s (min s.size 6)).len
 unfold L.fitS
 omega
set_option maxRecDepth 100000 in
theorem L.fitS_any (s : ByteArray) (hs : s.size ≤ maxLen) (w : World) :
 Calls Tryz.prog 19 #[.string s] w fun e w' => e = .returned (.string (L.fitS s)) ∧ Below w.heap.size w w' := by
 unfold maxLen at hs
 have hs1 : (s.size : Int) ≤ 9223372036854775807 := by omega
 have hat := Lib.hid (fun (k : Nat) (y : Int) (hy : (L.bs s)[k]? = some y) => L.at_of hy)
 have hrg := Lib.hid (L.bs_rng s)
 have hl := L.bs_len s
 have hm : 0 ≤ (s.size : Int) % 26 ∧ (s.size : Int) % 26 < 26 := by omega
 have hstep := Lib.hid (fun (k : Nat) (y : Int) (hy : (L.bs s)[k]? = some y) => show L.fitK s (k + 1) = L.fitK s k ++ L.alls.extract (y % 12).toNat ((y % 12).toNat + 1) by
  show L.fitK s k ++ L.alls.extract ((L.bs s).getD k 0 % 12).toNat (((L.bs s).getD k 0 % 12).toNat + 1) = _
  rw [show (L.bs s).getD k 0 = y by rw [List.getD_eq_getElem?_getD, hy]; rfl])
 have hlen := Lib.hid (fun k => (L.fitK_fits s k).len)
 obtain ⟨q0, hq0⟩ : ∃ q, q = L.fitS s := ⟨_, rfl⟩
 rw [← hq0]
 replace hq0 := Lib.hid hq0
 have hz := Lib.hid (show L.fitK s 0 = strOfNums [97 + (s.size : Int) % 26] from rfl)
 generalize L.bs s = xs at *
 go_enter Tryz.func19, Tryz.ntmps19
 have hY := Lib.hid (Rw.one (L := 256) (Has.new #[.int .u8 (97 + (s.size : Int) % 26)] 5 w) (by omega) (by omega))
 have hB := Lib.hid (((Kept.refl w).alloc #[.int .u8 (97 + (s.size : Int) % 26)] 5).below)
 go_upto_region 3 with (with_reducible refine want_do (o := ⟨some 12, _, _, _, _, _⟩) rfl (exec_text Tryz.underlying23 Tryz.underlying5 Tryz.underlying9 (.tmp 11) rfl rfl hY.out) ?_)
 clear hY
 generalize w.alloc (.cells #[.int .u8 (97 + (s.size : Int) % 26)] 5) = w1 at *
 rw [← hz.out]
 clear hm hz
 go_wp2
 go_loopw [4, 5] (fun o i wr => ∃ k : Nat, k ≤ 6 ∧ k ≤ s.size ∧ i = .int .i64 k ∧ o = .string (L.fitK s k) ∧ Below w.heap.size w wr) (fun _ i _ => 6 - (intOf i).toNat)
 case atStart => exact ⟨0, by omega, by omega, rfl, rfl, hB.out⟩
 case round =>
  clear hB
  obtain ⟨k, hk6, hks, rfl, rfl, hB⟩ := hrel
  have ht := hlen.out k
  by_cases d1 : k < s.size
  · have d2 : (k : Int) < (s.size : Int) := by omega
    by_cases d3 : k < 6
    · have d4 : (k : Int) < 6 := by omega
      obtain ⟨y, hy⟩ : ∃ y, xs[k]? = some y := ⟨_, List.getElem?_eq_getElem (by omega)⟩
      obtain ⟨hy1, hy2⟩ := hat.out k y hy
      have hy3 := hrg.out y (List.mem_of_getElem? hy)
      have R := hstep.out k y hy
      obtain ⟨q, hq⟩ := Int.eq_ofNat_of_zero_le (show 0 ≤ y % 12 by omega)
      rw [hq, Int.toNat_natCast] at R
      replace R := Lib.hid R
      have hq2 : q < 12 := by omega
      have hq3 : (q : Int) < 12 := by omega
      generalize L.fitK s k = t at *
      have hsum : (t.size : Int) ≤ 7 := by omega
      clear hy
      replace hB := Lib.hid hB
      go_wp2
      go_quiet (fail)
      go_wp2
      go_roundw
      case rel => exact ⟨k + 1, by omega, by omega, by go_num, by rw [R.out]; rfl, Bel.drewN hB.out nq⟩
      case measure => simp [intOf]; omega
    · have d4 : ¬ (k : Int) < 6 := by omega
      have R := Lib.hid (show L.fitK s k = q0 by rw [hq0.out]; unfold L.fitS; rw [show min s.size 6 = k by omega])
      replace hB := Lib.hid hB
      rw [R.out]
      clear ht
      go_wp2
      go_ret
      exact ⟨rfl, hB.out⟩
  · have d2 : ¬ (k : Int) < (s.size : Int) := by omega
    have R := Lib.hid (show L.fitK s k = q0 by rw [hq0.out]; unfold L.fitS; rw [show min s.size 6 = k by omega])
    replace hB := Lib.hid hB
    rw [R.out]
    clear ht
    go_wp2
    go_ret
    exact ⟨rfl, hB.out⟩
structure St (w : World) (A : Option Addr) (n c : Nat) (ss : List ByteArray) : Prop where
 len : ss.length = n
 le : n ≤ c
 max : c ≤ maxLen
 nil : A = none → c = 0
 siz : ∀ s ∈ ss, s.size ≤ 140737488351232
 cel : ∀ ad, A = some ad → ∀ j s, ss[j]? = some s → w.cell? (ad.add j) = some (.string s)
section
variable {w w' : World} {A : Option Addr} {n c : Nat} {ss : List ByteArray}
theorem St.lt {ad : Addr} (h : St w (some ad) n c ss) (hn : 0 < n) : ad.block < w.heap.size := by
 have hl : 0 < ss.length := by have := h.len; omega
 have := World.block_lt_of_cell? w _ (h.cel ad rfl 0 _ (List.getElem?_eq_getElem hl))
 unfold Addr.add at this
 split at this <;> exact this
theorem St.below (h : St w A n c ss) (hb : Below w.heap.size w w') : St w' A n c ss :=
 ⟨h.len, h.le, h.max, h.nil, h.siz, fun ad e j s hs => by
  have hj : j < ss.length := by
   rcases Nat.lt_or_ge j ss.length with h1 | h1
   · exact h1
   · rw [List.getElem?_eq_none h1] at hs; cases hs
  rw [World.cell?_of_block (w := w) (by rw [show (ad.add j).block = ad.block by cases j <;> rfl]; exact hb.block _ (by subst e; exact h.lt (by have := h.len; omega)))]
  exact h.cel ad e j s hs⟩
theorem St.addr {ad : Addr} (h : St w (some ad) n c ss) (hn : 0 < n) : ∃ b off, ad = ⟨b, off, none⟩ := by
 have hl : 0 < ss.length := by have := h.len; omega
 have hx := h.cel ad rfl 0 _ (List.getElem?_eq_getElem hl)
 obtain ⟨b, off, spot⟩ := ad
 have hspot : spot = none := by simpa [Addr.add] using World.cell?_spot hx
 subst hspot
 exact ⟨b, off, rfl⟩
theorem St.place (h : St w A n c ss) (hn : 0 < n) : ∃ b off, A = some ⟨b, off, none⟩ := by
 cases A with
 | none => have := h.nil rfl; have := h.le; omega
 | some ad => obtain ⟨b, off, rfl⟩ := h.addr hn; exact ⟨b, off, rfl⟩
theorem St.at {b off : Nat} (h : St w (some ⟨b, off, none⟩) n c ss) (k : Nat) (hk : k < n) : w.cell? ⟨b, off + k, none⟩ = some (.string (ss.getD k Ob.e0)) := by
 have hl : k < ss.length := by have := h.len; omega
 have := h.cel _ rfl k _ (List.getElem?_eq_getElem hl)
 rw [List.getD_eq_getElem?_getD, List.getElem?_eq_getElem hl]
 rwa [show (⟨b, off, none⟩ : Addr).add k = ⟨b, off + k, none⟩ by cases k <;> simp [Addr.add]] at this
theorem St.size (h : St w A n c ss) (k : Nat) : (ss.getD k Ob.e0).size ≤ 140737488351232 := by
 rw [List.getD_eq_getElem?_getD]
 cases q : ss[k]? with
 | none => exact Nat.zero_le _
 | some s => exact h.siz s (List.mem_of_getElem? q)
end
theorem hGN4 {w w4 : World} (h : Below w.heap.size w w4) : w.heap.size ≤ w4.heap.size := h.size
theorem fit_rises' (bs : List Int) (n m : Nat) (hn : n ≤ 65535) : Ch.Rises n (Ch.fit bs (min n m)) := (Ch.fit_rises bs n hn (min n m) (by omega)).1
theorem Sy.slice {w : World} {A : Option Addr} {n c : Nat} {ys : List Ob.Y} (h : Sy w A n c ys) (i : Nat) (hi : i ≤ n) : Sy w (if c = i then A else A.map (fun x => x.add (i * 2))) (n - i) (c - i) (ys.drop i) := by
 have hl := h.len
 have hle := h.le
 refine ⟨by simp [hl], by omega, by have := h.max; omega, ?_, ?_⟩
 · split
   · intro e; have := h.nil e; omega
   · cases A with
     | none => intro _; have := h.nil rfl; omega
     | some ad => intro e; cases e
 · intro ad e j v hv
   rw [Ob.cells_drop, List.getElem?_drop] at hv
   split at e
   · rename_i hc
     rw [List.getElem?_eq_none (by rw [Ob.cells_len]; omega)] at hv
     cases hv
   · cases A with
     | none => cases e
     | some a0 =>
       simp only [Option.map_some, Option.some.injEq] at e
       subst e
       rw [add_add]
       exact h.cel a0 rfl _ v hv
section
variable {P : Program} {ops : Array Oper} {rest : List Oper} {o : Oper} {a : Act} {Q : Exit → Act → World → Prop} {K : Act → World → Prop} {w : World}
theorem append_syK {e t : TypeId} {z : Value} {by0 : Nat} (hu : P.underlying t = some (.slice e)) (hinf : (P.info? e).map (fun i => (i.zero, i.size, i.bytes)) = some (some z, 2, by0)) (hz2 : z.cells.size = 2) (hby : by0 ≤ 100)
 (s x : Operand)
 (ho : o.op = .call { callee := .builtin .append, args := #[s, x], argTypes := #[t, t] }) (base g n cap : Nat) (xs : List Ob.Y) (hs : a.eval s = .slice (some ⟨g, 0, none⟩) n cap) (hown : Os e base (some ⟨g, 0, none⟩) n cap xs w)
 (B : Option Addr) (m c : Nat) (ys : List Ob.Y) (hx : a.eval x = .slice B m c) (hY : Sy w B m c ys) (hb : n + m ≤ 1000000000000) (hbase : base ≤ w.heap.size)
 (h : ∀ g' cap' w', Os e base (some ⟨g', 0, none⟩) (n + m) cap' (xs ++ ys) w' → w.grownBy w' (some g) → K (a.put o.dst (.slice (some ⟨g', 0, none⟩) (n + m) cap')) w') : o.wp P a w K Q := by
 obtain ⟨i0, hi, hz0, hz1, hz2'⟩ := info_parts hinf
 cases B with
 | none =>
   have hc := hY.nil rfl
   have hm : m = 0 := by have := hY.le; omega
   subst hc hm
   have hy : ys = [] := List.eq_nil_of_length_eq_zero hY.len
   subst hy
   have hrun := run_append_owned_none (P := P) (w := w) base t o.type e i0 2 hu hi _ n _ hown
   unfold Oper.wp
   simp [execOp, ho, resolve, invoke, builtin, hs, hx, hrun, Result.andThen]
   exact h g cap w (by rw [Nat.add_zero, List.append_nil]; exact hown) ⟨rfl, rfl, rfl, Nat.le_refl _, fun _ _ _ => rfl⟩
 | some ad =>
   refine wp_append_own w s x t ho base e i0 z 2 by0 hu hi hz0 hz1 hz2' hz2 (by decide) _ n (Ob.cells xs) hs hown ad m c (Ob.cells ys) hx (by rw [Ob.cells_len, hY.len]) (fun j u hj => hY.cel ad rfl j u hj) (fun u hu => Ob.cells_one hu) (by unfold maxLen; omega) ?_ hbase ?_
   · have := Nat.mul_le_mul hb hby
     omega
   · intro v' w' h1 h2 h3
     have hv : ∃ g' cap', v' = .slice (some ⟨g', 0, none⟩) (n + m) cap' := by
      rcases h1.2 with ⟨h4, h5⟩ | ⟨g', cap', cur, h4, _⟩
      · have := (h3.1 h4).1
        cases this
      · exact ⟨g', cap', h4⟩
     obtain ⟨g', cap', rfl⟩ := hv
     rw [← Ob.cells_append] at h1
     exact h g' cap' w' h1 h2
end
def Ob.fS (n : Nat) (bs : List Int) : List Int := Ch.fit bs (min n bs.length)
def Ob.fW (ws bs : List Int) : List Int := Ob.fw (ws.take (min ws.length 40)) (Ob.fS (min ws.length 40) bs) (Ob.fS (min ws.length 40) bs).length
def Ob.fY (n : Nat) (ns : List ByteArray) : List Ob.Y := Ob.fy L.fitS n ns (min ns.length 8)
theorem Ow.apart {e e' : TypeId} {k k' : IntKind} {base base' g g' n n' c c' : Nat} {xs xs' : List Int} {w : World} (h : Ow e k base g n c xs w) (h' : Ow e' k' base' g' n' c' xs' w) (he : e ≠ e') (j : Nat) (v : Value) : Ow e k base g n c xs (w.setCell ⟨g', j, none⟩ v) := by
 obtain ⟨_, _, _, _, cur, hh, _⟩ := h'.has
 have := h.on.other hh (fun q => he q.symm) j v
 exact this
theorem Os.apart {e e' : TypeId} {k' : IntKind} {base base' g' n n' c c' : Nat} {A : Option Addr} {ys : List Ob.Y} {xs' : List Int} {w : World} (h : Os e base A n c ys w) (h' : Ow e' k' base' g' n' c' xs' w) (he : e' ≠ e) (j : Nat) (v : Value) : Os e base A n c ys (w.setCell ⟨g', j, Option.none⟩ v) := by
 obtain ⟨_, _, _, _, cur, hh, _⟩ := h'.has
 exact h.other hh he j v
structure FitSt (base N G gW n1 cW gS cS : Nat) (W S : List Int) (A : Option Addr) (c : Nat) (Y : List Ob.Y) (w0 w : World) : Prop where
 hG : Has G #[.slice (some ⟨gW, 0, none⟩) n1 cW, .slice (some ⟨gS, 0, none⟩) S.length cS, .slice A Y.length c] 33 w
 hP : Ow 43 .u32 base gW n1 cW W w
 hQ : Ow 3 .i64 base gS S.length cS S w
 hY : Os 61 base A Y.length c Y w
 hZ : Has N #[.slice none 0 0, .slice none 0 0, .slice none 0 0] 33 w
 hB : Below base w0 w
 hN : N ≠ G
 hNb : base ≤ N
 hGb : base ≤ G
section
variable {base N G gW n1 cW gS cS : Nat} {W S : List Int} {A : Option Addr} {c : Nat} {Y : List Ob.Y} {w0 w w' : World}
theorem FitSt.below (h : FitSt base N G gW n1 cW gS cS W S A c Y w0 w) (hb : Below w.heap.size w w') : FitSt base N G gW n1 cW gS cS W S A c Y w0 w' :=
 ⟨h.hG.below hb, h.hP.below hb, h.hQ.below hb, h.hY.below hb, h.hZ.below hb, h.hB.trans (hb.mono (by have := h.hG.lt; have := h.hGb; omega)), h.hN, h.hNb, h.hGb⟩
theorem FitSt.drew (h : FitSt base N G gW n1 cW gS cS W S A c Y w0 w) : FitSt base N G gW n1 cW gS cS W S A c Y w0 w.drew :=
 ⟨h.hG.drew, h.hP.drew, h.hQ.drew, h.hY.drew, h.hZ.drew, h.hB.drew, h.hN, h.hNb, h.hGb⟩
theorem FitSt.word (h : FitSt base N G gW n1 cW gS cS W S A c Y w0 w) (j : Nat) (x : Int) : FitSt base N G gW n1 cW gS cS (W.set j x) S A c Y w0 (w.setCell ⟨gW, j, none⟩ (.int .u32 x)) :=
 have h1 := h.hP.on.ne h.hG (by decide) gW rfl
 have h2 := h.hP.on.ne h.hZ (by decide) gW rfl
 ⟨h.hG.other (fun e => h1 e.symm) _, h.hP.set j x, h.hQ.apart h.hP (by decide) j _, h.hY.apart h.hP (by decide) j _, h.hZ.other (fun e => h2 e.symm) _, h.hB.setCell h.hP.has.1 _, h.hN, h.hNb, h.hGb⟩
theorem FitSt.syms (h : FitSt base N G gW n1 cW gS cS W S A c Y w0 w) {A' : Option Addr} {c' : Nat} {Y' : List Ob.Y} (hO : Os 61 base A' Y'.length c' Y' w) : FitSt base N G gW n1 cW gS cS W S A' c' Y' w0 (w.setCell ⟨G, 2, none⟩ (.slice A' Y'.length c')) :=
 ⟨h.hG.set 2 _, h.hP.on.other h.hG (by decide) 2 _, h.hQ.on.other h.hG (by decide) 2 _, hO.other h.hG (by decide) 2 _, h.hZ.other h.hN _, h.hB.setCell h.hGb _, h.hN, h.hNb, h.hGb⟩
end
set_option maxRecDepth 100000 in
set_option maxHeartbeats 4000000 in
theorem Ob.fit_any {w : World} {A B C : Option Addr} {n c m d k e : Nat} {ws bs : List Int} {ns : List ByteArray} (hW : Wo w A n c ws) (hS : By w B m d bs) (hN : St w C k e ns) :
 Calls Tryz.prog 5 #[.slice A n c, .slice B m d, .slice C k e] w fun r w' => ∃ gW cW gS cS C' e', r = .returned (.agg #[.slice (some ⟨gW, 0, none⟩) (min n 40) cW, .slice (some ⟨gS, 0, none⟩) (Ob.fS (min n 40) bs).length cS, .slice C' (Ob.fY (min n 40) ns).length e']) ∧
  Ow 43 .u32 w.heap.size gW (min n 40) cW (Ob.fW ws bs) w' ∧ Ow 3 .i64 w.heap.size gS (Ob.fS (min n 40) bs).length cS (Ob.fS (min n 40) bs) w' ∧ Os 61 w.heap.size C' (Ob.fY (min n 40) ns).length e' (Ob.fY (min n 40) ns) w' ∧ Below w.heap.size w w' := by
 have hlw := hW.len
 have hlb := hS.len
 have hln := hN.len
 have hle := hW.le
 have hmx := hW.max
 have hle2 := hN.le
 have hmx2 := hN.max
 unfold maxLen at hmx hmx2
 obtain ⟨W, hWW⟩ : ∃ W, W = Ob.fW ws bs := ⟨_, rfl⟩
 obtain ⟨S, hSS⟩ : ∃ S, S = Ob.fS (min n 40) bs := ⟨_, rfl⟩
 obtain ⟨Y, hYY⟩ : ∃ Y, Y = Ob.fY (min n 40) ns := ⟨_, rfl⟩
 have hW0 := hWW
 unfold Ob.fW at hW0
 rw [hlw, ← hSS] at hW0
 rw [← hWW, ← hSS, ← hYY]
 obtain ⟨n1, hn1⟩ : ∃ n1, n1 = min n 40 := ⟨_, rfl⟩
 rw [← hn1] at hSS hYY hW0 ⊢
 have i1 : (if (40 : Int) < (n : Int) then (40 : Int) else n) = n1 := by split <;> omega
 have n1c : n1 ≤ c := by omega
 have n1m : n1 ≤ 40 := by omega
 have n1n : n1 ≤ n := by omega
 have hX := hW.take n1 n1n
 have hV0 : (ws.take n1).length = n1 := by rw [List.length_take]; omega
 have hVr := Lib.hid hX.rng
 generalize ws.take n1 = V at *
 replace hn1 := Lib.hid hn1
 replace hSS := Lib.hid hSS
 replace hYY := Lib.hid hYY
 replace hW0 := Lib.hid hW0
 clear hWW
 have hA1 := (((Kept.refl w).alloc #[.slice none 0 0, .slice none 0 0, .slice none 0 0] 33).alloc #[] 43).below
 have hZ := Lib.hid ((Has.new #[.slice none 0 0, .slice none 0 0, .slice none 0 0] 33 w).alloc (.cells #[] 43))
 have hO1 := Ow.new 43 .u32 (w.alloc (.cells #[.slice none 0 0, .slice none 0 0, .slice none 0 0] 33)) w.heap.size (by simp)
 rw [show (w.alloc (.cells #[.slice none 0 0, .slice none 0 0, .slice none 0 0] 33)).heap.size = w.heap.size + 1 by simp] at hO1
 replace hO1 := Lib.hid hO1
 replace hX := Lib.hid (hX.rg.below hA1)
 replace hS := Lib.hid hS
 replace hN := Lib.hid hN
 have hs0 := hA1.size
 have hB := Lib.hid hA1
 clear hA1 hW
 go_enter Tryz.func5, Tryz.ntmps5
 go_wp2_with (first
  | (with_reducible refine append_rg (o := ⟨some 20, _, _, _, _, _⟩) Tryz.underlying22 Ch.info32 (by omega) rfl (.tmp 14) (.tmp 19) rfl w.heap.size (w.heap.size + 1) 0 0 [] rfl hO1.out A n1 c V rfl hX.out (by omega) hs0 ?_
     intro gW cW w3 hO3 hG3
     rw [List.nil_append, Nat.zero_add] at hO3
     rw [Nat.zero_add]
     have q1 := hZ.out.grown hG3 (hO1.out.on.ne hZ.out (by decide))
     have q2 := hB.out.grown hG3 hs0 hO1.out.on.from
     have hA3 := ((Kept.refl w3).alloc #[.slice (some ⟨gW, 0, none⟩) n1 cW, .slice none 0 0, .slice none 0 0] 33).below
     have hG := Lib.hid (Has.new #[.slice (some ⟨gW, 0, none⟩) n1 cW, .slice none 0 0, .slice none 0 0] 33 w3)
     have hP := Lib.hid (hO3.below hA3)
     replace hZ := Lib.hid (q1.below hA3)
     have hGN := q2.size
     replace hB := Lib.hid (q2.trans (hA3.mono q2.size))
     have hZ0 : w.heap.size < w3.heap.size := q1.lt
     have hB0 := Lib.hid (show Below w.heap.size w _ from hB.out)
     clear q1 q2 hA3 hO3 hG3 hO1 hX hs0))
 generalize w3.alloc (.cells #[.slice (some ⟨gW, 0, none⟩) n1 cW, .slice none 0 0, .slice none 0 0] 33) = w4 at *
 have hNG := Nat.ne_of_lt hZ0
 generalize w3.heap.size = G at *
 refine (Ch.fit_any (hS.out.below hB0.out) n1 (by omega)).mono ?_; rintro r w5 ⟨gS, cS, rfl, hQ, hE⟩
 have e3 : Ch.fit bs (min n1 m) = S := by rw [hSS.out]; unfold Ob.fS; rw [hlb]
 rw [e3] at hQ ⊢
 have hRs : Ch.Rises n1 S := by rw [← e3]; exact (fit_rises' bs n1 m (by omega))
 replace hRs := Lib.hid hRs
 clear e3
 have hG5 := hG.out.below hE
 have f1 := hG5.cell 1 (.slice none 0 0) rfl
 have f2 := hG5.free 1
 have hF := Lib.hid (show FitSt w.heap.size w.heap.size G gW n1 cW gS cS V S none 0 [] w (w5.setCell ⟨G, 1, none⟩ (.slice (some ⟨gS, 0, none⟩) S.length cS)) from
  ⟨hG5.set 1 _, (hP.out.below hE).on.other hG5 (by decide) 1 _, (hQ.lower (hGN4 hB.out)).on.other hG5 (by decide) 1 _, Os.none _ _ _, (hZ.out.below hE).other hNG _, (hB.out.trans (hE.mono hB.out.size)).setCell hGN _, hNG, Nat.le_refl _, hGN⟩)
 clear hG5 hQ hG hP hZ hB hE
 have hV := Lib.hid hV0
 go_wp2
 generalize w5.setCell ⟨G, 1, none⟩ (.slice (some ⟨gS, 0, none⟩) S.length cS) = w6 at *
 clear f1 f2
 go_loopw [9] (fun i wr => ∃ j : Nat, j ≤ S.length ∧ i = .int .i64 j ∧ FitSt w.heap.size w.heap.size G gW n1 cW gS cS (Ob.fw V S j) S none 0 [] w wr) (fun i _ => S.length - (intOf i).toNat)
 case atStart => exact ⟨0, Nat.zero_le _, rfl, hF.out⟩
 case round =>
  clear hF
  obtain ⟨j, hj, rfl, hF⟩ := hrel
  have hSl : S.length ≤ 9223372036854775807 := by have := hF.hQ.has; unfold maxLen at this; omega
  have o1 := hF.hG.cell 1 (.slice (some ⟨gS, 0, none⟩) S.length cS) rfl
  by_cases d1 : j < S.length
  · have d2 : (j : Int) < S.length := by omega
    obtain ⟨s, hs1, hs2, hs3⟩ := Ch.site_nat hRs.out j d1
    have d3 : (s : Int) < n1 := by omega
    have hfw : Ob.fw V S (j + 1) = (Ob.fw V S j).set s ((Ob.fw V S j).getD s 0 % (4 * (n1 : Int) + 1)) := by
     show (Ob.fw V S j).set (S.getD j 0).toNat ((Ob.fw V S j).getD (S.getD j 0).toNat 0 % (4 * (V.length : Int) + 1)) = _
     rw [hs1, Int.toNat_natCast, hV.out]
    have hx := Ob.fw_rng S hVr.out (by rw [hV.out]; omega) j
    have hx2 : 0 ≤ (Ob.fw V S j).getD s 0 ∧ (Ob.fw V S j).getD s 0 < 4294967296 := by
     rw [List.getD_eq_getElem?_getD]
     cases q : (Ob.fw V S j)[s]? with
     | none => simp
     | some y => exact hx y (List.mem_of_getElem? q)
    have g2 := hF.hP.at s hs2
    have g1 := hF.hQ.at j d1
    rw [hs1] at g1
    clear hx g1 g2
    replace hfw := Lib.hid hfw
    generalize hX : (Ob.fw V S j).getD s 0 = x at *
    replace hX := Lib.hid hX
    go_wp2_with (fail)
    clear o1
    refine WS.start 22 (by kernel_rfl) (by kernel_rfl) ?_
    intro w5 hw5
    have hFd := hF.drew
    rw [← hw5] at hFd
    have o0 := hFd.hG.cell 0 (.slice (some ⟨gW, 0, none⟩) n1 cW) rfl
    have o1 := hFd.hG.cell 1 (.slice (some ⟨gS, 0, none⟩) S.length cS) rfl
    have g1 := hFd.hQ.at j d1
    rw [hs1] at g1
    have g2 := hFd.hP.at s hs2
    rw [hX.out] at g2
    have f2 := hFd.hP.free s
    clear hF
    replace hFd := Lib.hid hFd
    have q1 : IntKind.i64.wrap (4 * (n1 : Int)) = 4 * n1 := by rw [IntKind.wrap_i64]; omega
    have q2 : IntKind.i64.wrap (4 * (n1 : Int) + 1) = 4 * n1 + 1 := by rw [IntKind.wrap_i64]; omega
    have q3 : IntKind.u32.wrap (4 * (n1 : Int) + 1) = 4 * n1 + 1 := by rw [IntKind.wrap_u32]; omega
    have q4 : (4 * (n1 : Int) + 1 = 0) = False := eq_false (by omega)
    have q5 : x.tmod (4 * (n1 : Int) + 1) = x % (4 * n1 + 1) := Int.tmod_eq_emod_of_nonneg hx2.1
    clear hw5
    simp only [List.take_succ_cons, List.take_zero, List.drop_succ_cons, List.drop_zero]
    refine WS.step rfl (fun K hK => ?_); go_simp; (try (simp only [q1, q2, q3, q4, q5, if_false]; (try go_simp))); refine hK _ ?_; clear hK K
    refine WS.step rfl (fun K hK => ?_); go_simp; (try (simp only [q1, q2, q3, q4, q5, if_false]; (try go_simp))); refine hK _ ?_; clear hK K
    refine WS.step rfl (fun K hK => ?_); go_simp; (try (simp only [q1, q2, q3, q4, q5, if_false]; (try go_simp))); refine hK _ ?_; clear hK K
    refine WS.step rfl (fun K hK => ?_); go_simp; (try (simp only [q1, q2, q3, q4, q5, if_false]; (try go_simp))); refine hK _ ?_; clear hK K
    refine WS.step rfl (fun K hK => ?_); go_simp; (try (simp only [q1, q2, q3, q4, q5, if_false]; (try go_simp))); refine hK _ ?_; clear hK K
    refine WS.step rfl (fun K hK => ?_); go_simp; (try (simp only [q1, q2, q3, q4, q5, if_false]; (try go_simp))); refine hK _ ?_; clear hK K
    refine WS.step rfl (fun K hK => ?_); go_simp; (try (simp only [q1, q2, q3, q4, q5, if_false]; (try go_simp))); refine hK _ ?_; clear hK K
    refine WS.step rfl (fun K hK => ?_); go_simp; (try (simp only [q1, q2, q3, q4, q5, if_false]; (try go_simp))); refine hK _ ?_; clear hK K
    refine WS.step rfl (fun K hK => ?_); go_simp; (try (simp only [q1, q2, q3, q4, q5, if_false]; (try go_simp))); refine hK _ ?_; clear hK K
    refine WS.step rfl (fun K hK => ?_); go_simp; (try (simp only [q1, q2, q3, q4, q5, if_false]; (try go_simp))); refine hK _ ?_; clear hK K
    refine WS.step rfl (fun K hK => ?_); go_simp; (try (simp only [q1, q2, q3, q4, q5, if_false]; (try go_simp))); refine hK _ ?_; clear hK K
    refine WS.step rfl (fun K hK => ?_); go_simp; (try (simp only [q1, q2, q3, q4, q5, if_false]; (try go_simp))); refine hK _ ?_; clear hK K
    refine WS.step rfl (fun K hK => ?_); go_simp; (try (simp only [q1, q2, q3, q4, q5, if_false]; (try go_simp))); refine hK _ ?_; clear hK K
    refine WS.step rfl (fun K hK => ?_); go_simp; (try (simp only [q1, q2, q3, q4, q5, if_false]; (try go_simp))); refine hK _ ?_; clear hK K
    refine WS.step rfl (fun K hK => ?_); go_simp; (try (simp only [q1, q2, q3, q4, q5, if_false]; (try go_simp))); refine hK _ ?_; clear hK K
    refine WS.step rfl (fun K hK => ?_); go_simp; (try (simp only [q1, q2, q3, q4, q5, if_false]; (try go_simp))); refine hK _ ?_; clear hK K
    refine WS.step rfl (fun K hK => ?_); go_simp; (try (simp only [q1, q2, q3, q4, q5, if_false]; (try go_simp))); refine hK _ ?_; clear hK K
    refine WS.step rfl (fun K hK => ?_); go_simp; (try (simp only [q1, q2, q3, q4, q5, if_false]; (try go_simp))); refine hK _ ?_; clear hK K
    refine WS.step rfl (fun K hK => ?_); go_simp; (try (simp only [q1, q2, q3, q4, q5, if_false]; (try go_simp))); refine hK _ ?_; clear hK K
    refine WS.step rfl (fun K hK => ?_); go_simp; (try (simp only [q1, q2, q3, q4, q5, if_false]; (try go_simp))); refine hK _ ?_; clear hK K
    refine WS.step rfl (fun K hK => ?_); go_simp; (try (simp only [q1, q2, q3, q4, q5, if_false]; (try go_simp))); refine hK _ ?_; clear hK K
    refine WS.step rfl (fun K hK => ?_); go_simp; (try (simp only [q1, q2, q3, q4, q5, if_false]; (try go_simp))); refine hK _ ?_; clear hK K
    refine WS.nil ?_
    clear q1 q2 q3 q4 q5
    have f3 := hFd.out.hP.free s
    have f4 : w5.cell? ⟨gW, s, none⟩ = some (.int .u32 x) := by rw [hFd.out.hP.at s hs2, hX.out]
    have hF2 := Lib.hid (hFd.out.word s (x % (4 * (n1 : Int) + 1)))
    rw [← hfw.out] at hF2
    clear hFd hfw hX hs1
    go_wp2
    go_roundw
    case rel => exact ⟨j + 1, by omega, by go_num, hF2.out⟩
    case measure => simp [intOf]; omega
  · have d2 : ¬ (j : Int) < S.length := by omega
    obtain rfl : j = S.length := by omega
    rw [← hW0.out] at hF
    replace hF := Lib.hid hF
    obtain ⟨k1, hk1⟩ : ∃ k1, k1 = min k 8 := ⟨_, rfl⟩
    have hYk : Ob.fy L.fitS n1 ns k1 = Y := by rw [hYY.out]; unfold Ob.fY; rw [hln, ← hk1]
    replace hYk := Lib.hid hYk
    replace hk1 := Lib.hid hk1
    clear hW0 hYY hSS hVr hV hRs
    go_wp2
    clear o1
    rename World => w7
    go_loopw [10] (fun i wr => ∃ (q : Nat) (A' : Option Addr) (c' : Nat), q ≤ k1 ∧ i = .int .i64 q ∧ FitSt w.heap.size w.heap.size G gW n1 cW gS cS W S A' c' (Ob.fy L.fitS n1 ns q) w wr) (fun i _ => k1 - (intOf i).toNat)
    case atStart => exact ⟨0, none, 0, Nat.zero_le _, rfl, hF.out⟩
    case round =>
     clear hF d1 d2
     obtain ⟨q, A', c', hq, rfl, hF⟩ := hrel
     have hkk := hk1.out
     replace hF := Lib.hid hF
     by_cases d1 : q < k1
     · have d2 : (q : Int) < k := by omega
       have d3 : (q : Int) < 8 := by omega
       obtain ⟨b, off, rfl⟩ := hN.out.place (by omega)
       have hcell := Lib.hid (fun w' (hb : Below w.heap.size w w') => (hN.out.below hb).at q (by omega))
       have g1 := hcell.out _ hF.out.hB
       have hsz := hN.out.size q
       have hfy := Lib.hid (show Ob.fy L.fitS n1 ns (q + 1) = Ob.ins (Ob.fy L.fitS n1 ns q) (L.fitS (ns.getD q Ob.e0)) (4 * ((((ns.getD q Ob.e0).size : Int) + q) % ((n1 : Int) + 1))) from rfl)
       have hYq := Ob.fy_len L.fitS n1 ns q
       have hq8 : q < 8 := by omega
       generalize ns.getD q Ob.e0 = s at *
       generalize Ob.fy L.fitS n1 ns q = Z at *
       clear hkk
       go_wp2_with (fail)
       refine (L.fitS_any s (by unfold maxLen; omega) wr).mono ?_; rintro e w8 ⟨rfl, hE⟩
       replace hF := Lib.hid (hF.out.below hE)
       clear hE g1
       have hT := L.fitS_size s
       have hTG := Lib.hid (L.fitS_good s)
       generalize L.fitS s = t at *
       have hZl : Z.length ≤ 7 := by omega
       go_wp2
       go_loopw [12] (fun i wr => ∃ p : Nat, p ≤ Z.length ∧ i = .int .i64 p ∧ (∀ j, j < p → Ob.bl (Ob.nm Z j) t = true) ∧ w8 = wr) (fun i _ => Z.length - (intOf i).toNat)
       case atStart => exact ⟨0, Nat.zero_le _, rfl, fun j hj => by omega, rfl⟩
       case round =>
        obtain ⟨p, hp, rfl, ho, rfl⟩ := hrel
        have o2 := hF.out.hG.cell 2 (.slice A' Z.length c') rfl
        by_cases e1 : p < Z.length
        · have e2 : (p : Int) < Z.length := by omega
          have hA' : ∃ g, A' = some ⟨g, 0, none⟩ := by
           rcases hF.out.hY.cases with ⟨_, h0, _⟩ | ⟨g, rfl, _⟩
           · omega
           · exact ⟨g, rfl⟩
          obtain ⟨g, rfl⟩ := hA'
          have g2 := hF.out.hY.sy.name p e1
          rw [Nat.zero_add] at g2
          cases e3 : Ob.bl (Ob.nm Z p) t with
          | true =>
            have R := Lib.hid (Ob.before ho e3)
            unfold Ob.bl at e3
            clear ho
            generalize Ob.nm Z p = u at *
            go_wp2
            go_roundw
            case rel => exact ⟨p + 1, by omega, by go_num, R.out, by trivial⟩
            case measure => simp [intOf]; omega
          | false =>
            have hpos := Lib.hid (Ob.pos_of Z t p hp ho (Or.inr e3))
            clear ho
            by_cases e4 : Ob.nm Z p = t
            · have R := Lib.hid (show Ob.ins Z t (4 * (((s.size : Int) + q) % ((n1 : Int) + 1))) = Z by unfold Ob.ins; rw [hpos.out, if_pos ⟨e1, e4⟩])
              unfold Ob.bl at e3
              rw [e4] at g2 e3
              have e5 : (t.toList == t.toList) = true := by simp
              go_wp2
              rw [R.out] at hfy
              go_roundw
              case rel => exact ⟨q + 1, some ⟨g, 0, none⟩, c', by omega, by go_num, by rw [hfy.out]; exact hF.out⟩
              case measure => simp [intOf]; omega
            · have R := Lib.hid (show Ob.ins Z t (4 * (((s.size : Int) + q) % ((n1 : Int) + 1))) = Z.take p ++ (t, 4 * (((s.size : Int) + q) % ((n1 : Int) + 1))) :: Z.drop p by unfold Ob.ins; rw [hpos.out, if_neg (fun h => e4 h.2)])
              unfold Ob.bl at e3
              have e5 : ((Ob.nm Z p).toList == t.toList) = false := by
               rw [beq_eq_false_iff_ne]; exact fun h => e4 (Ob.toList_inj h)
              generalize Ob.nm Z p = u at *
              go_wp2_with (fail)
              clear g2
              generalize (some (⟨g, 0, none⟩ : Addr)) = A' at *
              clear o2
              obtain ⟨a, ha⟩ : ∃ a, a = 4 * (((s.size : Int) + q) % ((n1 : Int) + 1)) := ⟨_, rfl⟩
              rw [← ha] at R hfy
              obtain ⟨Z', hZ'⟩ : ∃ Z', Z' = Z.take p ++ (t, a) :: Z.drop p := ⟨_, rfl⟩
              have hlen : p + (1 + (Z.length - p)) = Z'.length := by rw [hZ']; simp; omega
              have hcat : Z.take p ++ ([(t, a)] ++ Z.drop p) = Z' := by rw [hZ']; rfl
              rw [R.out, ← hZ'] at hfy
              clear R hZ' hpos
              replace hlen := Lib.hid hlen
              replace hcat := Lib.hid hcat
              have m1 := Int.emod_nonneg ((s.size : Int) + q) (show (n1 : Int) + 1 ≠ 0 by omega)
              have m2 := Int.emod_lt_of_pos ((s.size : Int) + q) (show (0 : Int) < (n1 : Int) + 1 by omega)
              have q1 : IntKind.i64.wrap ((s.size : Int) + q) = (s.size : Int) + q := by rw [IntKind.wrap_i64]; omega
              have q2 : IntKind.i64.wrap ((n1 : Int) + 1) = (n1 : Int) + 1 := by rw [IntKind.wrap_i64]; omega
              have q3 : ((n1 : Int) + 1 = 0) = False := eq_false (by omega)
              have q4 : ((s.size : Int) + q).tmod ((n1 : Int) + 1) = ((s.size : Int) + q) % ((n1 : Int) + 1) := Int.tmod_eq_emod_of_nonneg (by omega)
              have q5 : IntKind.i64.wrap (((s.size : Int) + q) % ((n1 : Int) + 1)) = ((s.size : Int) + q) % ((n1 : Int) + 1) := by rw [IntKind.wrap_i64]; omega
              have q6 : IntKind.i64.wrap (4 * (((s.size : Int) + q) % ((n1 : Int) + 1))) = a := by rw [IntKind.wrap_i64, ha]; omega
              have hSc := hF.out.hY.sy.slice p hp
              have hpc : p ≤ c' := by have := hF.out.hY.sy.le; omega
              obtain ⟨R, hR⟩ : ∃ R : Option Addr, (if c' = p then (A' : Option Addr) else Option.map (fun x => x.add (p * 2)) (A' : Option Addr)) = R := ⟨_, rfl⟩
              rw [hR] at hSc
              replace hSc := Lib.hid hSc
              clear m1 m2 ha
              refine wp_region_held_drew (S := fun w' => Below w8.heap.size w8 w') (by kernel_rfl) ((Below.refl _ _).drew) (fun hHeld => ?_)
              replace hF := Lib.hid (hF.out.below hHeld)
              replace hSc := Lib.hid (hSc.out.below hHeld)
              refine wpAnyH_now _ _ _ _ hHeld (fun hHeld => ?_)
              generalize w8.drew = w8d at *
              refine tk 0 _ (v := ?_) hHeld ?_ (tk 1 _ (v := ?_) hHeld ?_ (tk 2 _ (v := ?_) hHeld ?_ (tk 3 _ (v := ?_) hHeld ?_ ?_)))
              all_goals try (intro wz hSw; go_simp; with_reducible rfl)
              try simp only [Act.put, pq]
              refine tk 4 _ (v := ?_) hHeld ?_ ?_
              rotate_left
              · (intro wz hSw; have g1 := hcell.out _ (hF.out.below hSw).hB; go_simp; try with_reducible rfl)
              try simp only [Act.put, pq]
              refine tk 5 _ (v := ?_) hHeld ?_ (tk 6 _ (v := ?_) hHeld ?_ ?_)
              all_goals try (intro wz hSw; go_simp; with_reducible rfl)
              try simp only [Act.put, pq]
              refine tk 7 _ (v := ?_) hHeld ?_ ?_
              rotate_left
              · (intro wz hSw; go_simp; (try simp only [q1, q2, q3, q4, q5, q6, if_false]); (try go_simp); (try simp only [q1, q2, q3, q4, q5, q6, if_false]); try with_reducible rfl)
              try simp only [Act.put, pq]
              refine tk 8 _ (v := ?_) hHeld ?_ ?_
              rotate_left
              · (intro wz hSw; go_simp; try with_reducible rfl)
              try simp only [Act.put, pq]
              refine tk 9 _ (v := ?_) hHeld ?_ (tk 10 _ (v := ?_) hHeld ?_ (tk 11 _ (v := ?_) hHeld ?_ (tk 12 _ (v := ?_) hHeld ?_ ?_)))
              all_goals try (intro wz hSw; go_simp; (try simp only [q1, q2, q3, q4, q5, q6, if_false]); (try go_simp); (try simp only [q1, q2, q3, q4, q5, q6, if_false]); with_reducible rfl)
              try simp only [Act.put, pq]
              refine tk 14 _ (v := ?_) hHeld ?_ ?_
              rotate_left
              · (intro wz hSw; go_simp; try with_reducible rfl)
              try simp only [Act.put, pq]
              refine tk 15 _ (v := ?_) hHeld ?_ ?_
              rotate_left
              · (intro wz hSw; have o2 := (hF.out.below hSw).hG.cell 2 (.slice A' Z.length c') rfl; go_simp; try with_reducible rfl)
              try simp only [Act.put, pq]
              refine tk 16 _ (v := ?_) hHeld ?_ ?_
              rotate_left
              · (intro wz hSw; go_simp; try with_reducible rfl)
              try simp only [Act.put, pq]
              refine tk 17 _ (v := ?_) hHeld ?_ ?_
              rotate_left
              · (intro wz hSw; go_simp; (try simp only [hR]); try with_reducible rfl)
              try simp only [Act.put, pq]
              refine wpAnyH_ready (rs := [13]) (by kernel_rfl) (by simp) ?_
              refine AllReadyH.cons (o := _) rfl (fun K hK => ?_) AllReadyH.nil
              go_simp
              have hE := ((Kept.refl w8d).alloc #[.string t, .int .i64 a] 61).below
              have hb9 := Lib.hid hE
              have hO9 := Lib.hid (Os.one 61 t a w8d w8d.heap.size (Nat.le_refl _))
              generalize w8d.alloc (.cells #[.string t, .int .i64 a] 61) = w9 at *
              clear hHeld
              refine hK.out _ _ hE (fun hHeld => ?_)
              clear hK K hE
              try simp only [Act.put, pq]
              refine wpAnyH_ready (rs := [18]) (by kernel_rfl) (by simp) ?_
              refine AllReadyH.cons (o := _) rfl (fun K hK => ?_) AllReadyH.nil
              refine append_syK Tryz.underlying31 Ob.info39 rfl (by omega) (.tmp 118) (.tmp 122) rfl w8d.heap.size w8d.heap.size 1 1 [(t, a)] rfl hO9.out R (Z.length - p) (c' - p) (Z.drop p) rfl (hSc.out.below hb9.out) (by omega) hb9.out.size ?_
              intro g5 cap5 w10 hO10 hG10
              have hE := hb9.out.grown hG10 hb9.out.size (fun q e => by cases e; exact Nat.le_refl _)
              replace hO10 := Lib.hid hO10.sy
              clear hG10 hO9 hb9
              clear hHeld
              refine hK.out _ _ hE (fun hHeld => ?_)
              clear hK K
              replace hF := Lib.hid (hF.out.below hE)
              replace hSc := Lib.hid (hSc.out.below hE)
              refine wpAnyH_now _ _ _ _ hE (fun hHeld => ?_)
              clear hE
              try simp only [Act.put, pq]
              refine tk 19 _ (v := ?_) hHeld ?_ ?_
              rotate_left
              · (intro wz hSw; go_simp; try with_reducible rfl)
              try simp only [Act.put, pq]
              refine wpAnyH_done (by kernel_rfl) ?_ _
              have hEa := ((Kept.refl w10).alloc #[] 61).below
              have hO11 := Lib.hid (Os.new 61 w10 w10.heap.size (Nat.le_refl _))
              have hFa := hF.out.below hEa
              have o2 := hFa.hG.cell 2 (.slice A' Z.length c') rfl
              have hYp := Lib.hid (hFa.hY.sy.take p hp)
              have hsa := hEa.size
              have hlow : w.heap.size ≤ w10.heap.size := by have := hF.out.hG.lt; have := hF.out.hGb; omega
              replace hEa := Lib.hid hEa
              clear hFa hR hSc q1 q2 q3 q4 q5 q6
              go_wp2_with (first
               | (with_reducible refine append_sy (o := ⟨some 129, _, _, _, _, _⟩) Tryz.underlying31 Ob.info39 rfl (by omega) rfl (.tmp 124) (.tmp 128) rfl w10.heap.size (some ⟨w10.heap.size, 0, none⟩) 0 0 [] rfl hO11.out A' p c' (Z.take p) rfl hYp.out (by omega) hsa (Or.inl (by simp)) ?_
                  intro g6 cap6 w11 hO12 hG12
                  rw [List.nil_append, Nat.zero_add] at hO12
                  rw [Nat.zero_add]
                  have hEb := Lib.hid (hEa.out.grown hG12 hsa (fun q e => by cases e; exact Nat.le_refl _))
                  have hq2 := Lib.hid (hO10.out.below hEb.out)
                  have hsb := hEb.out.size
                  have hg6 := hO12.has.1
                  replace hO12 := Lib.hid hO12
                  clear hG12 hsa hYp hO11 o2)
               | (with_reducible refine append_sy (o := ⟨some 131, _, _, _, _, _⟩) Tryz.underlying31 Ob.info39 rfl (by omega) rfl (.tmp 129) (.tmp 130) rfl w10.heap.size (some ⟨g6, 0, none⟩) p cap6 (Z.take p) rfl hO12.out (some ⟨g5, 0, none⟩) (1 + (Z.length - p)) cap5 ([(t, a)] ++ Z.drop p) rfl hq2.out (by omega) hsb (Or.inl (by simp)) ?_
                  intro g7 cap7 w12 hO13 hG13
                  rw [hcat.out, hlen.out] at hO13
                  rw [hlen.out]
                  have hEc := hEb.out.grown hG13 hsb (fun q e => by cases e; exact hg6)
                  have hFc := hF.out.below hEc
                  have f1 := hFc.hG.cell 2 (.slice A' Z.length c') rfl
                  have f2 := hFc.hG.free 2
                  have hF2 := Lib.hid (hFc.syms (hO13.lower hlow))
                  clear hG13 hO13 hEc hFc hq2 hsb hg6 hO12))
              go_roundw
              case rel => exact ⟨q + 1, some ⟨g7, 0, none⟩, cap7, by omega, by go_num, by rw [hfy.out]; exact hF2.out⟩
              case measure => simp [intOf]; omega
        · have e2 : ¬ (p : Int) < Z.length := by omega
          have hpos := Lib.hid (Ob.pos_of Z t p hp ho (Or.inl (by omega)))
          clear ho
          have R := Lib.hid (show Ob.ins Z t (4 * (((s.size : Int) + q) % ((n1 : Int) + 1))) = Z.take p ++ (t, 4 * (((s.size : Int) + q) % ((n1 : Int) + 1))) :: Z.drop p by unfold Ob.ins; rw [hpos.out, if_neg (fun h => e1 h.1)])
          go_wp2_with (fail)
          clear o2
          obtain ⟨a, ha⟩ : ∃ a, a = 4 * (((s.size : Int) + q) % ((n1 : Int) + 1)) := ⟨_, rfl⟩
          rw [← ha] at R hfy
          obtain ⟨Z', hZ'⟩ : ∃ Z', Z' = Z.take p ++ (t, a) :: Z.drop p := ⟨_, rfl⟩
          have hlen : p + (1 + (Z.length - p)) = Z'.length := by rw [hZ']; simp; omega
          have hcat : Z.take p ++ ([(t, a)] ++ Z.drop p) = Z' := by rw [hZ']; rfl
          rw [R.out, ← hZ'] at hfy
          clear R hZ' hpos
          replace hlen := Lib.hid hlen
          replace hcat := Lib.hid hcat
          have m1 := Int.emod_nonneg ((s.size : Int) + q) (show (n1 : Int) + 1 ≠ 0 by omega)
          have m2 := Int.emod_lt_of_pos ((s.size : Int) + q) (show (0 : Int) < (n1 : Int) + 1 by omega)
          have q1 : IntKind.i64.wrap ((s.size : Int) + q) = (s.size : Int) + q := by rw [IntKind.wrap_i64]; omega
          have q2 : IntKind.i64.wrap ((n1 : Int) + 1) = (n1 : Int) + 1 := by rw [IntKind.wrap_i64]; omega
          have q3 : ((n1 : Int) + 1 = 0) = False := eq_false (by omega)
          have q4 : ((s.size : Int) + q).tmod ((n1 : Int) + 1) = ((s.size : Int) + q) % ((n1 : Int) + 1) := Int.tmod_eq_emod_of_nonneg (by omega)
          have q5 : IntKind.i64.wrap (((s.size : Int) + q) % ((n1 : Int) + 1)) = ((s.size : Int) + q) % ((n1 : Int) + 1) := by rw [IntKind.wrap_i64]; omega
          have q6 : IntKind.i64.wrap (4 * (((s.size : Int) + q) % ((n1 : Int) + 1))) = a := by rw [IntKind.wrap_i64, ha]; omega
          have hSc := hF.out.hY.sy.slice p hp
          have hpc : p ≤ c' := by have := hF.out.hY.sy.le; omega
          obtain ⟨R, hR⟩ : ∃ R : Option Addr, (if c' = p then (A' : Option Addr) else Option.map (fun x => x.add (p * 2)) (A' : Option Addr)) = R := ⟨_, rfl⟩
          rw [hR] at hSc
          replace hSc := Lib.hid hSc
          clear m1 m2 ha
          refine wp_region_held_drew (S := fun w' => Below w8.heap.size w8 w') (by kernel_rfl) ((Below.refl _ _).drew) (fun hHeld => ?_)
          replace hF := Lib.hid (hF.out.below hHeld)
          replace hSc := Lib.hid (hSc.out.below hHeld)
          refine wpAnyH_now _ _ _ _ hHeld (fun hHeld => ?_)
          generalize w8.drew = w8d at *
          refine tk 0 _ (v := ?_) hHeld ?_ (tk 1 _ (v := ?_) hHeld ?_ (tk 2 _ (v := ?_) hHeld ?_ (tk 3 _ (v := ?_) hHeld ?_ ?_)))
          all_goals try (intro wz hSw; go_simp; with_reducible rfl)
          try simp only [Act.put, pq]
          refine tk 4 _ (v := ?_) hHeld ?_ ?_
          rotate_left
          · (intro wz hSw; have g1 := hcell.out _ (hF.out.below hSw).hB; go_simp; try with_reducible rfl)
          try simp only [Act.put, pq]
          refine tk 5 _ (v := ?_) hHeld ?_ (tk 6 _ (v := ?_) hHeld ?_ ?_)
          all_goals try (intro wz hSw; go_simp; with_reducible rfl)
          try simp only [Act.put, pq]
          refine tk 7 _ (v := ?_) hHeld ?_ ?_
          rotate_left
          · (intro wz hSw; go_simp; (try simp only [q1, q2, q3, q4, q5, q6, if_false]); (try go_simp); (try simp only [q1, q2, q3, q4, q5, q6, if_false]); try with_reducible rfl)
          try simp only [Act.put, pq]
          refine tk 8 _ (v := ?_) hHeld ?_ ?_
          rotate_left
          · (intro wz hSw; go_simp; try with_reducible rfl)
          try simp only [Act.put, pq]
          refine tk 9 _ (v := ?_) hHeld ?_ (tk 10 _ (v := ?_) hHeld ?_ (tk 11 _ (v := ?_) hHeld ?_ (tk 12 _ (v := ?_) hHeld ?_ ?_)))
          all_goals try (intro wz hSw; go_simp; (try simp only [q1, q2, q3, q4, q5, q6, if_false]); (try go_simp); (try simp only [q1, q2, q3, q4, q5, q6, if_false]); with_reducible rfl)
          try simp only [Act.put, pq]
          refine tk 14 _ (v := ?_) hHeld ?_ ?_
          rotate_left
          · (intro wz hSw; go_simp; try with_reducible rfl)
          try simp only [Act.put, pq]
          refine tk 15 _ (v := ?_) hHeld ?_ ?_
          rotate_left
          · (intro wz hSw; have o2 := (hF.out.below hSw).hG.cell 2 (.slice A' Z.length c') rfl; go_simp; try with_reducible rfl)
          try simp only [Act.put, pq]
          refine tk 16 _ (v := ?_) hHeld ?_ ?_
          rotate_left
          · (intro wz hSw; go_simp; try with_reducible rfl)
          try simp only [Act.put, pq]
          refine tk 17 _ (v := ?_) hHeld ?_ ?_
          rotate_left
          · (intro wz hSw; go_simp; (try simp only [hR]); try with_reducible rfl)
          try simp only [Act.put, pq]
          refine wpAnyH_ready (rs := [13]) (by kernel_rfl) (by simp) ?_
          refine AllReadyH.cons (o := _) rfl (fun K hK => ?_) AllReadyH.nil
          go_simp
          have hE := ((Kept.refl w8d).alloc #[.string t, .int .i64 a] 61).below
          have hb9 := Lib.hid hE
          have hO9 := Lib.hid (Os.one 61 t a w8d w8d.heap.size (Nat.le_refl _))
          generalize w8d.alloc (.cells #[.string t, .int .i64 a] 61) = w9 at *
          clear hHeld
          refine hK.out _ _ hE (fun hHeld => ?_)
          clear hK K hE
          try simp only [Act.put, pq]
          refine wpAnyH_ready (rs := [18]) (by kernel_rfl) (by simp) ?_
          refine AllReadyH.cons (o := _) rfl (fun K hK => ?_) AllReadyH.nil
          refine append_syK Tryz.underlying31 Ob.info39 rfl (by omega) (.tmp 118) (.tmp 122) rfl w8d.heap.size w8d.heap.size 1 1 [(t, a)] rfl hO9.out R (Z.length - p) (c' - p) (Z.drop p) rfl (hSc.out.below hb9.out) (by omega) hb9.out.size ?_
          intro g5 cap5 w10 hO10 hG10
          have hE := hb9.out.grown hG10 hb9.out.size (fun q e => by cases e; exact Nat.le_refl _)
          replace hO10 := Lib.hid hO10.sy
          clear hG10 hO9 hb9
          clear hHeld
          refine hK.out _ _ hE (fun hHeld => ?_)
          clear hK K
          replace hF := Lib.hid (hF.out.below hE)
          replace hSc := Lib.hid (hSc.out.below hE)
          refine wpAnyH_now _ _ _ _ hE (fun hHeld => ?_)
          clear hE
          try simp only [Act.put, pq]
          refine tk 19 _ (v := ?_) hHeld ?_ ?_
          rotate_left
          · (intro wz hSw; go_simp; try with_reducible rfl)
          try simp only [Act.put, pq]
          refine wpAnyH_done (by kernel_rfl) ?_ _
          have hEa := ((Kept.refl w10).alloc #[] 61).below
          have hO11 := Lib.hid (Os.new 61 w10 w10.heap.size (Nat.le_refl _))
          have hFa := hF.out.below hEa
          have o2 := hFa.hG.cell 2 (.slice A' Z.length c') rfl
          have hYp := Lib.hid (hFa.hY.sy.take p hp)
          have hsa := hEa.size
          have hlow : w.heap.size ≤ w10.heap.size := by have := hF.out.hG.lt; have := hF.out.hGb; omega
          replace hEa := Lib.hid hEa
          clear hFa hR hSc q1 q2 q3 q4 q5 q6
          go_wp2_with (first
           | (with_reducible refine append_sy (o := ⟨some 129, _, _, _, _, _⟩) Tryz.underlying31 Ob.info39 rfl (by omega) rfl (.tmp 124) (.tmp 128) rfl w10.heap.size (some ⟨w10.heap.size, 0, none⟩) 0 0 [] rfl hO11.out A' p c' (Z.take p) rfl hYp.out (by omega) hsa (Or.inl (by simp)) ?_
              intro g6 cap6 w11 hO12 hG12
              rw [List.nil_append, Nat.zero_add] at hO12
              rw [Nat.zero_add]
              have hEb := Lib.hid (hEa.out.grown hG12 hsa (fun q e => by cases e; exact Nat.le_refl _))
              have hq2 := Lib.hid (hO10.out.below hEb.out)
              have hsb := hEb.out.size
              have hg6 := hO12.has.1
              replace hO12 := Lib.hid hO12
              clear hG12 hsa hYp hO11 o2)
           | (with_reducible refine append_sy (o := ⟨some 131, _, _, _, _, _⟩) Tryz.underlying31 Ob.info39 rfl (by omega) rfl (.tmp 129) (.tmp 130) rfl w10.heap.size (some ⟨g6, 0, none⟩) p cap6 (Z.take p) rfl hO12.out (some ⟨g5, 0, none⟩) (1 + (Z.length - p)) cap5 ([(t, a)] ++ Z.drop p) rfl hq2.out (by omega) hsb (Or.inl (by simp)) ?_
              intro g7 cap7 w12 hO13 hG13
              rw [hcat.out, hlen.out] at hO13
              rw [hlen.out]
              have hEc := hEb.out.grown hG13 hsb (fun q e => by cases e; exact hg6)
              have hFc := hF.out.below hEc
              have f1 := hFc.hG.cell 2 (.slice A' Z.length c') rfl
              have f2 := hFc.hG.free 2
              have hF2 := Lib.hid (hFc.syms (hO13.lower hlow))
              clear hG13 hO13 hEc hFc hq2 hsb hg6 hO12))
          go_roundw
          case rel => exact ⟨q + 1, some ⟨g7, 0, none⟩, cap7, by omega, by go_num, by rw [hfy.out]; exact hF2.out⟩
          case measure => simp [intOf]; omega
     · obtain rfl : q = k1 := by omega
       rw [hYk.out] at hF
       have f0 := hF.out.hG.cell 0 (.slice (some ⟨gW, 0, none⟩) n1 cW) rfl
       have f1 := hF.out.hG.cell 1 (.slice (some ⟨gS, 0, none⟩) S.length cS) rfl
       have f2 := hF.out.hG.cell 2 (.slice A' Y.length c') rfl
       have hkc : q < k → ¬ (q : Int) < 8 := by omega
       clear hkk
       by_cases d2 : q < k
       · have d3 : (q : Int) < k := by omega
         have d4 := hkc d2
         clear hkc
         go_wp2_with (with_reducible refine store_has (o := ⟨none, _, _, _, _, _⟩) rfl 33 (.tmp 6) (.tmp 133) rfl w.heap.size #[.slice (some ⟨gW, 0, none⟩) n1 cW, .slice (some ⟨gS, 0, none⟩) S.length cS, .slice A' Y.length c'] rfl rfl hF.out.hZ (Ob.info26 _ _ _) rfl (Ob.oneS _ _ _ _ _ _ _ _ _) ?_)
         refine bodyPost_ret (results_has rfl w.heap.size rfl (hF.out.hZ.row _) Tryz.underlying33 rfl (Ob.info26 _ _ _)) rfl ?_
         exact ⟨gW, cW, gS, cS, A', c', rfl, hF.out.hP.on.otherRow hF.out.hZ (by decide) _, hF.out.hQ.on.otherRow hF.out.hZ (by decide) _, hF.out.hY.otherRow hF.out.hZ (by decide) _, Bel.setRow hF.out.hB (Nat.le_refl _) _⟩
       · have d3 : ¬ (q : Int) < k := by omega
         clear hkc
         go_wp2_with (with_reducible refine store_has (o := ⟨none, _, _, _, _, _⟩) rfl 33 (.tmp 6) (.tmp 133) rfl w.heap.size #[.slice (some ⟨gW, 0, none⟩) n1 cW, .slice (some ⟨gS, 0, none⟩) S.length cS, .slice A' Y.length c'] rfl rfl hF.out.hZ (Ob.info26 _ _ _) rfl (Ob.oneS _ _ _ _ _ _ _ _ _) ?_)
         refine bodyPost_ret (results_has rfl w.heap.size rfl (hF.out.hZ.row _) Tryz.underlying33 rfl (Ob.info26 _ _ _)) rfl ?_
         exact ⟨gW, cW, gS, cS, A', c', rfl, hF.out.hP.on.otherRow hF.out.hZ (by decide) _, hF.out.hQ.on.otherRow hF.out.hZ (by decide) _, hF.out.hY.otherRow hF.out.hZ (by decide) _, Bel.setRow hF.out.hB (Nat.le_refl _) _⟩
def Ob.zz : ByteArray := ⟨#[122, 122, 95]⟩
theorem Ob.bl_zz : ∀ l : List UInt8, (∃ x xs, l.map (fun b => (b.toNat : Int)) = x :: xs ∧ x ≤ 122 ∧ ∀ y ∈ xs, y < 122) → Op.bytesLess l [122, 122, 95] = true
 | [], ⟨x, xs, e, _⟩ => by simp at e
 | a :: r, ⟨x, xs, e, h1, h2⟩ => by
   simp only [List.map_cons, List.cons.injEq] at e
   obtain ⟨rfl, rfl⟩ := e
   simp only [Op.bytesLess, Bool.or_eq_true, decide_eq_true_eq, Bool.and_eq_true, beq_iff_eq]
   by_cases c : a = 122
   · subst c
     refine Or.inr ⟨rfl, ?_⟩
     cases r with
     | nil => rfl
     | cons b r =>
       have := h2 (b.toNat : Int) (by simp)
       simp only [Op.bytesLess, Bool.or_eq_true, decide_eq_true_eq]
       refine Or.inl ?_
       rw [UInt8.lt_iff_toNat_lt]
       show b.toNat < 122
       omega
   · refine Or.inl ?_
     rw [UInt8.lt_iff_toNat_lt]
     show a.toNat < 122
     have : a.toNat ≠ 122 := fun q => c (UInt8.toNat_inj.1 q)
     omega
theorem L.fitS_zz (s : ByteArray) : Ob.bl (L.fitS s) Ob.zz = true := by
 unfold Ob.bl
 rw [Lib.toList_data, Lib.toList_data]
 exact Ob.bl_zz _ (L.fitK_low s _)
structure Ob.Fine (W S : List Int) (Y : List Ob.Y) : Prop where
 hn : W.length ≤ 40
 hy : Y.length ≤ 8
 hr : ∀ x ∈ W, 0 ≤ x ∧ x < 4294967296
 hR : Ch.Rises W.length S
 hL : Ob.Low W S
 hN : Ob.Rise Y
 hP : ∀ y ∈ Y, 0 ≤ y.2 ∧ y.2 ≤ 4 * (W.length : Int) ∧ y.2 % 4 = 0
 hS : ∀ y ∈ Y, y.1.size ≤ 7
 hZ : ∀ y ∈ Y, Ob.bl y.1 Ob.zz = true
theorem Ob.fW_len (ws bs : List Int) : (Ob.fW ws bs).length = min ws.length 40 := by
 unfold Ob.fW
 rw [Ob.fw_len, List.length_take]
 omega
theorem Ob.fine_fit {ws : List Int} (bs : List Int) (ns : List ByteArray) (hw : ∀ x ∈ ws, 0 ≤ x ∧ x < 4294967296) : Ob.Fine (Ob.fW ws bs) (Ob.fS (min ws.length 40) bs) (Ob.fY (min ws.length 40) ns) := by
 have hl := Ob.fW_len ws bs
 have ht : (ws.take (min ws.length 40)).length = min ws.length 40 := by rw [List.length_take]; omega
 refine ⟨by omega, ?_, ?_, ?_, ?_, ?_, ?_, ?_, ?_⟩
 · have := Ob.fy_len L.fitS (min ws.length 40) ns (min ns.length 8)
   unfold Ob.fY
   omega
 · exact Ob.fw_rng _ (fun x hx => hw x (List.mem_of_mem_take hx)) (by omega) _
 · rw [hl]; exact fit_rises' bs _ _ (by omega)
 · intro k hk
   unfold Ob.LowAt Ch.val
   have := Ob.fw_low (ws.take (min ws.length 40)) (Ob.fS (min ws.length 40) bs) (Ob.fS (min ws.length 40) bs).length k hk hk
   rw [ht] at this
   rw [hl]
   exact this
 · exact Ob.fy_rise L.fitS_good _ _ _
 · rw [hl]; exact Ob.fy_place _
 · exact Ob.fy_mem (Q := fun y => y.1.size ≤ 7) (fun k => L.fitS_size _) _
 · exact Ob.fy_mem (Q := fun y => Ob.bl y.1 Ob.zz = true) (fun k => L.fitS_zz _) _
section
variable {W S : List Int} {Y : List Ob.Y}
theorem Ob.Fine.big (h : Ob.Fine W S Y) : ¬ (1024 < W.length ∨ 64 < Y.length) := by have := h.hn; have := h.hy; omega
theorem Ob.Fine.names (h : Ob.Fine W S Y) : Ob.Names Y := (Ob.names_iff Y).2 h.hN
theorem Ob.Fine.places (h : Ob.Fine W S Y) : Ob.Places (4 * (W.length : Int)) Y := (Ob.places_iff _ Y).2 h.hP
theorem Ob.Fine.ok (h : Ob.Fine W S Y) : Ob.may W S Y = 0 := Ob.may_0 h.big h.hR h.hL h.names h.places
theorem Ob.Fine.siz (h : Ob.Fine W S Y) : ∀ y ∈ Y, y.1.size ≤ 1000000 := fun y hy => by have := h.hS y hy; omega
def Ob.below (n : Nat) (S : List Int) (i : Nat) : List Int := (S.take i).filter (fun s => decide (s < (n : Int)))
def Ob.fitsTo (n : Nat) (W S : List Int) (i : Nat) : Bool := (Ob.below n S i).all fun s => decide (W.getD s.toNat 0 ≤ 4 * (n : Int))
def Ob.upto (n : Nat) (Y : List Ob.Y) (i : Nat) : List Ob.Y := (Y.take i).filter (fun y => decide (y.2 ≤ 4 * (n : Int)))
end
def Lo.img (S : List Int) (b : Int) : Nat → List Int → List Int
 | _, [] => []
 | i, x :: ws => (if ((i : Int) ∈ S) then (x + b) % 4294967296 else x) :: Lo.img S b (i + 1) ws
def Lo.base (b : Int) : Prop := 0 ≤ b ∧ b ≤ 16384 ∧ b % 4 = 0
instance (b : Int) : Decidable (Lo.base b) := inferInstanceAs (Decidable (_ ∧ _ ∧ _))
def Lo.iE (W S : List Int) (Y : List Ob.Y) (b : Int) : Int := if Ob.may W S Y = 0 then (if Lo.base b then 0 else 11) else Ob.may W S Y
def Lo.iW (W S : List Int) (Y : List Ob.Y) (b : Int) : List Int := if Lo.iE W S Y b = 0 then Lo.img S b 0 W else []
theorem Lo.img_len (S : List Int) (b : Int) : ∀ (ws : List Int) (i : Nat), (Lo.img S b i ws).length = ws.length
 | [], _ => rfl
 | x :: ws, i => by
   show (Lo.img S b (i + 1) ws).length + 1 = ws.length + 1
   rw [Lo.img_len S b ws (i + 1)]
theorem Lo.img_at (S : List Int) (b : Int) : ∀ (ws : List Int) (i j : Nat), (Lo.img S b i ws)[j]? = (ws[j]?).map fun x => if (((i + j : Nat) : Int) ∈ S) then (x + b) % 4294967296 else x
 | [], _, j => by simp [Lo.img]
 | x :: ws, i, 0 => by simp [Lo.img]
 | x :: ws, i, j + 1 => by
   show (Lo.img S b (i + 1) ws)[j]? = _
   rw [Lo.img_at S b ws (i + 1) j, show i + 1 + j = i + (j + 1) by omega]
   rfl
theorem Lo.img_nil (b : Int) : ∀ (ws : List Int) (i : Nat), Lo.img [] b i ws = ws
 | [], _ => rfl
 | x :: ws, i => by
   show (if ((i : Int) ∈ ([] : List Int)) then (x + b) % 4294967296 else x) :: Lo.img [] b (i + 1) ws = _
   rw [if_neg (by simp), Lo.img_nil b ws (i + 1)]
theorem Lo.img_rng {S : List Int} {b : Int} {ws : List Int} (i : Nat) (h : ∀ x ∈ ws, 0 ≤ x ∧ x < 4294967296) : ∀ x ∈ Lo.img S b i ws, 0 ≤ x ∧ x < 4294967296 := by
 intro x hx
 obtain ⟨j, hj, rfl⟩ := List.getElem_of_mem hx
 have h1 := Lo.img_at S b ws i j
 rw [List.getElem?_eq_getElem hj] at h1
 rw [Lo.img_len] at hj
 rw [List.getElem?_eq_getElem hj] at h1
 simp only [Option.map_some, Option.some.injEq] at h1
 rw [h1]
 split
 · omega
 · exact h _ (List.getElem_mem hj)
theorem Lo.img_site {S : List Int} {b : Int} {ws : List Int} {s : Nat} {x : Int} (hs : ¬ (s : Int) ∈ S) (hx : ws[s]? = some x) : (Lo.img S b 0 ws).set s ((x + b) % 4294967296) = Lo.img (S ++ [(s : Int)]) b 0 ws := by
 have hl : s < ws.length := by
  rcases Nat.lt_or_ge s ws.length with h1 | h1
  · exact h1
  · rw [List.getElem?_eq_none h1] at hx; cases hx
 apply List.ext_getElem?
 intro j
 rw [List.getElem?_set, Lo.img_len, Lo.img_at, Lo.img_at, Nat.zero_add]
 by_cases c : s = j
 · subst c
   rw [if_pos rfl, if_pos hl, hx]
   simp
 · rw [if_neg c]
   have e : ((j : Int) ∈ S ++ [(s : Int)]) ↔ (j : Int) ∈ S := by
    simp only [List.mem_append, List.mem_cons, List.not_mem_nil, or_false]
    constructor
    · rintro (q | q)
      · exact q
      · omega
    · exact Or.inl
   simp only [e]
theorem Lo.img_old {S : List Int} {b : Int} {ws : List Int} {s : Nat} {x : Int} (hs : ¬ (s : Int) ∈ S) (hx : ws[s]? = some x) : (Lo.img S b 0 ws)[s]? = some x := by
 rw [Lo.img_at, Nat.zero_add, hx]
 simp [hs]
theorem Lo.fresh {S : List Int} (h : S.Pairwise (· < ·)) {k : Nat} (hk : k < S.length) : ¬ S.getD k 0 ∈ S.take k := by
 intro q
 obtain ⟨j, hj, e⟩ := List.getElem_of_mem q
 rw [List.length_take] at hj
 rw [List.getElem_take] at e
 have h1 := (List.pairwise_iff_getElem.1 h) j k (by omega) hk (by omega)
 rw [List.getD_eq_getElem?_getD, List.getElem?_eq_getElem hk] at e
 simp only [Option.getD_some] at e
 omega
theorem Lo.ok_E {W S : List Int} {Y : List Ob.Y} {b : Int} (h : Ob.may W S Y = 0) (hb : Lo.base b) : Lo.iE W S Y b = 0 := by unfold Lo.iE; rw [if_pos h, if_pos hb]
theorem Lo.ok_W {W S : List Int} {Y : List Ob.Y} {b : Int} (h : Ob.may W S Y = 0) (hb : Lo.base b) : Lo.iW W S Y b = Lo.img S b 0 W := by unfold Lo.iW; rw [if_pos (Lo.ok_E h hb)]
theorem Lo.bad_E {W S : List Int} {Y : List Ob.Y} {b : Int} (h : Ob.may W S Y = 0) (hb : ¬ Lo.base b) : Lo.iE W S Y b = 11 ∧ Lo.iW W S Y b = [] := by
 have e : Lo.iE W S Y b = 11 := by unfold Lo.iE; rw [if_pos h, if_neg hb]
 exact ⟨e, by unfold Lo.iW; rw [e, if_neg (by decide)]⟩
theorem Lo.not_E {W S : List Int} {Y : List Ob.Y} {b : Int} (h : ¬ Ob.may W S Y = 0) : Lo.iE W S Y b = Ob.may W S Y ∧ Lo.iW W S Y b = [] := by
 have e : Lo.iE W S Y b = Ob.may W S Y := by unfold Lo.iE; rw [if_neg h]
 exact ⟨e, by unfold Lo.iW; rw [e, if_neg h]⟩
end Go.Proofs.YtpfgmfiegnkocaaGreat
namespace Go.Proofs.YtpfgmfiegnkocaaGreat
open Go.RowKit
variable {tyM : TypeId} {tlM : List Value}
set_option linter.unusedVariables false
set_option linter.unusedSimpArgs false
set_option maxRecDepth 100000
def M.zero : Array Value := (List.replicate 4096 (Value.int .u32 0) ++ [Value.int .i64 0]).toArray
theorem M.shape : shapeOf Tryz.prog 68 = some (M.zero, [(0, 4096), (4096, 1)]) := by kernel_rfl
theorem row_size (k : Nat) (a b : Value) : (List.replicate k a ++ [b]).toArray.size = k + 1 := by simp
theorem row_at (k j : Nat) (a b : Value) (hj : j < k) : (List.replicate k a ++ [b]).toArray[j]? = some a := by
 rw [List.getElem?_toArray, List.getElem?_append_left (by simpa using hj), List.getElem?_replicate, if_pos hj]
theorem fill_one {place : Nat → Option (Nat × Nat)} {z : Array Value} {i off : Nat} {v : Value} (hp : place i = some (off, 1)) (hv : v.cells = #[v]) (hz : off + 1 ≤ z.size) : Instr.fill place z [(i, v)] = some (z.setIfInBounds off v) := by
 unfold Instr.fill
 simp [hp, hv, Instr.fill]
 omega
theorem M.zero_size : M.zero.size = 4097 := row_size 4096 _ _
theorem M.zero_at (j : Nat) (hj : j < 4096) : M.zero[j]? = some (Value.int .u32 0) := row_at 4096 j _ _ hj
theorem M.built (n : Int) : Tryz.prog.built 68 [(1, .int .i64 n)] = some (M.zero.setIfInBounds 4096 (.int .i64 n)) := by
 rw [built_of M.shape]
 exact fill_one rfl rfl (by rw [M.zero_size]; omega)
theorem MemT.new (n : Nat) (hn : n ≤ 4096) (w : World) : MemT 68 [] w.heap.size (List.replicate n 0) (w.alloc (.cells (M.zero.setIfInBounds 4096 (.int .i64 n)) 68)) := by
 refine ⟨by simpa using hn, fun x hx => ?_, _, Has.new _ _ _, by simp [M.zero_size], ?_, fun j x hj => ?_, fun j => by rw [Array.getElem?_eq_none (by simp [M.zero_size])]; simp⟩
 · rw [List.eq_of_mem_replicate hx]; omega
 · rw [Array.getElem?_setIfInBounds_self_of_lt (by rw [M.zero_size]; omega), List.length_replicate]
 · rw [List.getElem?_replicate] at hj
   split at hj
   · cases hj
     rw [Array.getElem?_setIfInBounds_ne (by omega)]
     exact M.zero_at j (by omega)
   · cases hj
theorem M.new_no (n : Int) (hn : n < 0 ∨ 4096 < n) (w : World) :
 Calls Tryz.prog 39 #[.int .i64 n] w fun e w' => e = .returned (.tuple #[.pointer none, .int .i64 2]) ∧ w = w' := by
 rcases Int.lt_or_le n 0 with h | h
 · go_enter Tryz.func39, Tryz.ntmps39
   go_wp2
   go_ret2
   exact ⟨rfl, rfl⟩
 · have h1 : 4096 < n := by omega
   go_enter Tryz.func39, Tryz.ntmps39
   go_wp2
   go_ret2
   exact ⟨rfl, rfl⟩
theorem M.new_yes (n : Nat) (hn : n ≤ 4096) (w : World) :
 Calls Tryz.prog 39 #[.int .i64 n] w fun e w' => e = .returned (.tuple #[.pointer (some ⟨w.heap.size, 0, none⟩), .int .i64 0]) ∧ MemT 68 [] w.heap.size (List.replicate n 0) w' ∧ Kept w w' ∧ w'.heap.size = w.heap.size + 1 := by
 have h0 : (0 : Int) ≤ n := by omega
 have h1 : (n : Int) ≤ 4096 := by omega
 go_enter Tryz.func39, Tryz.ntmps39
 go_wp2_with (first
  | ((with_reducible refine build_has (o := ⟨some 11, _, _, _, _, _⟩) rfl 68 _ rfl (M.zero.setIfInBounds 4096 (.int .i64 n)) ?hf4 ?_); (case hf4 => (go_simp; exact M.built _))))
 go_ret2
 exact ⟨rfl, MemT.new n hn w, (Kept.refl w).alloc _ _, by simp⟩
theorem M.low_any (x : Int) (h0 : 0 ≤ x) (h1 : x < 4294967296) (w : World) :
 Calls Tryz.prog 122 #[.int .u32 x] w fun e w' => e = .returned (.int .u32 (8 * (x % 4))) ∧ w = w' := by
 go_enter Tryz.func122, Tryz.ntmps122
 go_wp2
 go_ret
 exact ⟨rfl, rfl⟩
def M.bt (ws : List Int) (a : Int) : Int := if (ws.length : Int) ≤ a / 4 then 3 else 0
def M.wt (ws : List Int) (a : Int) : Int := if a % 4 = 0 then M.bt ws a else 4
theorem M.bt_any {B : Nat} {ws : List Int} {w : World} (h : MemT tyM tlM B ws w) (a : Int) (h0 : 0 ≤ a) (h1 : a < 4294967296) :
 Calls Tryz.prog 90 #[.pointer (some ⟨B, 0, none⟩), .int .u32 a] w fun e w' => e = .returned (.int .i64 (M.bt ws a)) ∧ w = w' := by
 have hc := h.count
 have hl := h.len
 have hl0 : (ws.length : Int) ≤ 4096 := by omega
 clear h
 unfold M.bt
 by_cases c : (ws.length : Int) ≤ a / 4
 · rw [if_pos c]
   go_enter Tryz.func90, Tryz.ntmps90
   go_wp2
   go_ret
   exact ⟨rfl, rfl⟩
 · rw [if_neg c]
   go_enter Tryz.func90, Tryz.ntmps90
   go_wp2
   go_ret
   exact ⟨rfl, rfl⟩
theorem M.wt_any {B : Nat} {ws : List Int} {w : World} (h : MemT tyM tlM B ws w) (a : Int) (h0 : 0 ≤ a) (h1 : a < 4294967296) :
 Calls Tryz.prog 69 #[.pointer (some ⟨B, 0, none⟩), .int .u32 a] w fun e w' => e = .returned (.int .i64 (M.wt ws a)) ∧ w = w' := by
 have C := M.bt_any h a h0 h1
 clear h
 unfold M.wt
 by_cases c : a % 4 = 0
 · rw [if_pos c]
   go_enter Tryz.func69, Tryz.ntmps69
   go_wp2_with (go_at_call 90; refine C.mono ?_; rintro e w' ⟨rfl, rfl⟩)
   go_ret
   exact ⟨rfl, rfl⟩
 · rw [if_neg c]
   go_enter Tryz.func69, Tryz.ntmps69
   go_wp2
   go_ret
   exact ⟨rfl, rfl⟩
def M.word (ws : List Int) (a : Int) : Int := if M.wt ws a = 0 then ws.getD (a / 4).toNat 0 else 0
def M.byte (ws : List Int) (a : Int) : Int := if M.bt ws a = 0 then ws.getD (a / 4).toNat 0 / 2 ^ (8 * (a % 4)).toNat % 256 else 0
theorem M.bt_zero {ws : List Int} {a : Int} (h0 : 0 ≤ a) (h : M.bt ws a = 0) : (a / 4).toNat < ws.length := by
 unfold M.bt at h
 split at h
 · omega
 · omega
theorem M.wt_zero {ws : List Int} {a : Int} (h : M.wt ws a = 0) : a % 4 = 0 ∧ M.bt ws a = 0 := by
 unfold M.wt at h
 split at h
 · exact ⟨by assumption, h⟩
 · omega
theorem M.word_any {B : Nat} {ws : List Int} {w : World} (h : MemT tyM tlM B ws w) (a : Int) (h0 : 0 ≤ a) (h1 : a < 4294967296) :
 Calls Tryz.prog 44 #[.pointer (some ⟨B, 0, none⟩), .int .u32 a] w fun e w' => e = .returned (.tuple #[.int .u32 (M.word ws a), .int .i64 (M.wt ws a)]) ∧ w = w' := by
 have C := M.wt_any h a h0 h1
 have hl := h.len
 unfold M.word
 by_cases c : M.wt ws a = 0
 · rw [if_pos c]
   obtain ⟨c1, c2⟩ := M.wt_zero c
   have c3 := M.bt_zero h0 c2
   have hw := h.word _ c3
   rw [show ws.getD (a / 4).toNat 0 = ws[(a / 4).toNat] by simp [c3]]
   generalize ws[(a / 4).toNat] = x at *
   have c4 : a / 4 < 4096 := by omega
   rw [c] at C ⊢
   clear h hl c c1 c2 c3
   go_enter Tryz.func44, Tryz.ntmps44
   go_wp2_with (go_at_call 69; refine C.mono ?_; rintro e w' ⟨rfl, rfl⟩)
   go_ret2
   exact ⟨rfl, rfl⟩
 · rw [if_neg c]
   generalize M.wt ws a = t at *
   clear h
   go_enter Tryz.func44, Tryz.ntmps44
   go_wp2_with (go_at_call 69; refine C.mono ?_; rintro e w' ⟨rfl, rfl⟩)
   go_ret2
   exact ⟨rfl, rfl⟩
theorem M.byte_any {B : Nat} {ws : List Int} {w : World} (h : MemT tyM tlM B ws w) (a : Int) (h0 : 0 ≤ a) (h1 : a < 4294967296) :
 Calls Tryz.prog 101 #[.pointer (some ⟨B, 0, none⟩), .int .u32 a] w fun e w' => e = .returned (.tuple #[.int .u8 (M.byte ws a), .int .i64 (M.bt ws a)]) ∧ Kept w w' := by
 have C := M.bt_any h a h0 h1
 have hl := h.len
 unfold M.byte
 by_cases c : M.bt ws a = 0
 · rw [if_pos c]
   have c3 := M.bt_zero h0 c
   have hw := h.word _ c3
   have hr := h.rng _ (List.getElem_mem c3)
   rw [show ws.getD (a / 4).toNat 0 = ws[(a / 4).toNat] by simp [c3]]
   generalize ws[(a / 4).toNat] = x at *
   have c4 : a / 4 < 4096 := by omega
   rw [c] at C ⊢
   have L := fun w => M.low_any a h0 h1 w
   generalize hk : 8 * (a % 4) = k at *
   have k0 : 0 ≤ k := by omega
   have k1 : k < 32 := by omega
   clear h hl c c3 hk
   go_enter Tryz.func101, Tryz.ntmps101
   go_wp2_with (go_at_call 90; refine C.mono ?_; rintro e w' ⟨rfl, rfl⟩)
   have hq : IntKind.u32.wrap (a.tdiv 4) = a / 4 := IntWalk.u32_quo a 4 ⟨h0, by omega, by omega⟩
   have hq0 : 0 ≤ a / 4 := by omega
   go_quiet ((go_at_call 122; exact Calls.quiet_of_same ((L _).mono fun _ _ h => ⟨h.1, h.2.symm⟩)))
   go_wp2
   go_ret2
   exact ⟨rfl, (Kept.refl w).drewN nq⟩
 · rw [if_neg c]
   generalize M.bt ws a = t at *
   clear h
   go_enter Tryz.func101, Tryz.ntmps101
   go_wp2_with (go_at_call 90; refine C.mono ?_; rintro e w' ⟨rfl, rfl⟩)
   go_ret2
   exact ⟨rfl, Kept.refl _⟩
variable {tyM : TypeId} {tlM : List Value}
set_option linter.unusedVariables false
set_option linter.unusedSimpArgs false
set_option maxRecDepth 100000
theorem copy_has {P : Program} {w : World} {ops : Array Oper} {rest : List Oper} {o : Oper} {a : Act} {Q : Exit → Act → World → Prop} (hgd : o.guard = none) (d s : Operand) (dT sT : TypeId)
 (ho : o.op = .call { callee := .builtin .copy, args := #[d, s], argTypes := #[dT, sT] }) (elem : TypeId) (hu : P.underlying dT = some (.slice elem)) (hsz : (P.info? elem).map (·.size) = some 1)
 (dp sp : Option Addr) (dLen dCap sLen sCap : Nat) (hd : a.eval d = .slice dp dLen dCap) (hs : a.eval s = .slice sp sLen sCap)
 (g off : Nat) (cur : Array Value) (t : TypeId) (hg : Has g cur t w) (cs : List Value) (hn : cs.length = Nat.min sLen dLen)
 (hpos : 0 < cs.length → dp = some ⟨g, off, none⟩ ∧ ∃ ad, sp = some ad ∧ ∀ (j : Nat) (v : Value), cs[j]? = some v → w.cell? (ad.add j) = some v)
 (hfit : off + cs.length ≤ cur.size) (h1 : ∀ v ∈ cs, v.oneCell' = true)
 (h : wpList P ops Q rest (a.put o.dst (goInt cs.length)) (w.setRow g (cur.toList.take off ++ cs ++ cur.toList.drop (off + cs.length)).toArray)) : wpList P ops Q (o :: rest) a w := by
 by_cases h0 : cs.length = 0
 · obtain rfl : cs = [] := List.eq_nil_of_length_eq_zero h0
   refine wpList_copy_nothing hgd d s dT sT ho elem hu hsz dp sp dLen dCap sLen sCap hd hs (by simpa using hn.symm) ?_
   have e : (cur.toList.take off ++ ([] : List Value) ++ cur.toList.drop (off + ([] : List Value).length)).toArray = cur := by simp
   rw [e, setRow_self w g cur t (0, 0) hg] at h
   exact h
 · obtain ⟨rfl, ad, rfl, hsrc⟩ := hpos (by omega)
   refine wpList_copy_own hgd d s dT sT ho elem hu hsz g off dLen dCap ad sLen sCap hd hs cur t hg cs hn hsrc hfit h1 ?_
   rw [List.append_assoc] at h
   exact h
def M.setW (ws : List Int) (a x : Int) : List Int := if M.wt ws a = 0 then ws.set (a / 4).toNat x else ws
def M.mix (y a x : Int) : Int := y - y / 2 ^ (8 * (a % 4)).toNat % 256 * 2 ^ (8 * (a % 4)).toNat + x * 2 ^ (8 * (a % 4)).toNat
def M.setB (ws : List Int) (a x : Int) : List Int := if M.bt ws a = 0 then ws.set (a / 4).toNat (M.mix (ws.getD (a / 4).toNat 0) a x) else ws
theorem M.setW_any {B : Nat} {ws : List Int} {w : World} (h : MemT tyM tlM B ws w) (a x : Int) (h0 : 0 ≤ a) (h1 : a < 4294967296) (x0 : 0 ≤ x) (x1 : x < 4294967296) :
 Calls Tryz.prog 123 #[.pointer (some ⟨B, 0, none⟩), .int .u32 a, .int .u32 x] w fun e w' => e = .returned (.int .i64 (M.wt ws a)) ∧ MemT tyM tlM B (M.setW ws a x) w' ∧ But B w w' := by
 have C := M.wt_any h a h0 h1
 have hl := h.len
 unfold M.setW
 by_cases c : M.wt ws a = 0
 · rw [if_pos c]
   obtain ⟨c1, c2⟩ := M.wt_zero c
   have c3 := M.bt_zero h0 c2
   have hw := h.word _ c3
   have hf := h.free (a / 4).toNat
   have c4 : a / 4 < 4096 := by omega
   have R := Lib.hid (h.set _ c3 x x0 x1)
   generalize ws[(a / 4).toNat] = y at *
   rw [c] at C ⊢
   clear h hl c c1 c2 c3
   go_enter Tryz.func123, Tryz.ntmps123
   go_wp2_with (go_at_call 69; refine C.mono ?_; rintro e w' ⟨rfl, rfl⟩)
   go_ret
   exact ⟨rfl, R.out, (But.refl B w).setCell _ _⟩
 · rw [if_neg c]
   have R := Lib.hid h
   generalize M.wt ws a = t at *
   clear h
   go_enter Tryz.func123, Tryz.ntmps123
   go_wp2_with (go_at_call 69; refine C.mono ?_; rintro e w' ⟨rfl, rfl⟩)
   go_ret
   exact ⟨rfl, R.out, But.refl B w⟩
theorem M.mask_bit (k i : Nat) (hk : k ≤ 24) : (4294967295 - 255 * 2 ^ k).testBit i = (decide (i < k) || (decide (k + 8 ≤ i) && decide (i < 32))) := by
 have e : 4294967295 - 255 * 2 ^ k = 2 ^ k * (2 ^ 8 * (2 ^ (24 - k) - 1) + 0) + (2 ^ k - 1) := by
  have h1 : 2 ^ k * (2 ^ 8 * 2 ^ (24 - k)) = 4294967296 := by rw [← Nat.pow_add, ← Nat.pow_add, show k + (8 + (24 - k)) = 32 by omega]
  have h2 : 1 ≤ 2 ^ (24 - k) := Nat.one_le_two_pow
  have h3 : 1 ≤ 2 ^ k := Nat.one_le_two_pow
  rw [show (2 : Nat) ^ 8 = 256 from rfl] at h1 ⊢
  generalize 2 ^ (24 - k) = Q at *
  generalize 2 ^ k = P at *
  rw [Nat.add_zero, Nat.mul_sub, Nat.mul_sub, h1]
  have h4 : P * 256 ≤ P * (256 * Q) := Nat.mul_le_mul_left _ (by omega)
  omega
 rw [e, Nat.testBit_two_pow_mul_add _ (by have : 1 ≤ 2 ^ k := Nat.one_le_two_pow; omega), Nat.testBit_two_pow_mul_add _ (by decide), Nat.testBit_two_pow_sub_one, Nat.testBit_two_pow_sub_one]
 by_cases c1 : i < k
 · simp [c1]
 · by_cases c2 : i - k < 8
   · simp [c1, c2, show ¬ k + 8 ≤ i by omega]
   · simp only [c1, c2, if_false, show k + 8 ≤ i by omega, decide_true, decide_false, Bool.true_and, Bool.false_or]
     rw [decide_eq_decide]; omega
theorem M.put_bits (y x k : Nat) (hk : k ≤ 24) (hy : y < 4294967296) (hx : x < 256) : (y &&& (4294967295 - 255 * 2 ^ k)) ||| (x * 2 ^ k) = y - y / 2 ^ k % 256 * 2 ^ k + x * 2 ^ k := by
 have e : y - y / 2 ^ k % 256 * 2 ^ k + x * 2 ^ k = 2 ^ k * (2 ^ 8 * (y / 2 ^ k / 256) + x) + y % 2 ^ k := by
  have h1 := Nat.div_add_mod y (2 ^ k)
  have h2 := Nat.div_add_mod (y / 2 ^ k) 256
  have h3 : 2 ^ k * (y / 2 ^ k) = 2 ^ k * (256 * (y / 2 ^ k / 256)) + 2 ^ k * (y / 2 ^ k % 256) := by rw [← Nat.mul_add, h2]
  rw [Nat.mul_add, Nat.mul_comm x, Nat.mul_comm (y / 2 ^ k % 256), show (2 : Nat) ^ 8 = 256 from rfl]
  generalize 2 ^ k * (y / 2 ^ k % 256) = A1 at *
  generalize 2 ^ k * (256 * (y / 2 ^ k / 256)) = A2 at *
  generalize 2 ^ k * (y / 2 ^ k) = A3 at *
  generalize y % 2 ^ k = A4 at *
  generalize 2 ^ k * x = A5 at *
  clear h2
  omega
 rw [e]
 apply Nat.eq_of_testBit_eq
 intro i
 rw [Nat.testBit_two_pow_mul_add _ (Nat.mod_lt _ (Nat.two_pow_pos k)), Nat.testBit_two_pow_mul_add _ (show x < 2 ^ 8 by omega), Nat.testBit_or, Nat.testBit_and, M.mask_bit k i hk, Nat.testBit_mod_two_pow, Nat.mul_comm x, Nat.testBit_two_pow_mul]
 by_cases c1 : i < k
 · simp [c1, show ¬ k ≤ i by omega]
 · by_cases c2 : i - k < 8
   · simp [c1, c2, show ¬ k + 8 ≤ i by omega, show k ≤ i by omega]
   · have hxb : x.testBit (i - k) = false := Nat.testBit_lt_two_pow (Nat.lt_of_lt_of_le hx (show 2 ^ 8 ≤ 2 ^ (i - k) from Nat.pow_le_pow_right (by decide) (by omega)))
     have hyb : y.testBit i = (y / 2 ^ k / 256).testBit (i - k - 8) := by
      rw [Nat.div_div_eq_div_mul, show 2 ^ k * 256 = 2 ^ (k + 8) by rw [Nat.pow_add], Nat.testBit_div_two_pow, show i - k - 8 + (k + 8) = i by omega]
     simp only [c1, c2, if_false, show k + 8 ≤ i by omega, decide_true, decide_false, Bool.true_and, Bool.false_or, hxb, Bool.and_false, Bool.or_false]
     rw [← hyb]
     by_cases c3 : i < 32
     · simp [c3]
     · have : y.testBit i = false := Nat.testBit_lt_two_pow (Nat.lt_of_lt_of_le hy (show 2 ^ 32 ≤ 2 ^ i from Nat.pow_le_pow_right (by decide) (by omega)))
       simp [this]
theorem M.put (y a x : Int) (h0 : 0 ≤ a) (x0 : 0 ≤ x) (x1 : x < 256) (y0 : 0 ≤ y) (y1 : y < 4294967296) :
 bits .or .u32 (bits .andNot .u32 y (255 * 2 ^ (8 * (a % 4)).toNat % 4294967296)) (x * 2 ^ (8 * (a % 4)).toNat % 4294967296) = M.mix y a x := by
 unfold M.mix
 obtain ⟨k, hk⟩ : ∃ k : Nat, k = (8 * (a % 4)).toNat := ⟨_, rfl⟩
 rw [← hk]
 have hk4 : k = 0 ∨ k = 8 ∨ k = 16 ∨ k = 24 := by omega
 have hk24 : k ≤ 24 := by omega
 clear hk
 obtain ⟨y, rfl⟩ := Int.eq_ofNat_of_zero_le y0
 obtain ⟨x, rfl⟩ := Int.eq_ofNat_of_zero_le x0
 have p1 : (2 : Int) ^ k ≤ 16777216 := by rcases hk4 with rfl | rfl | rfl | rfl <;> decide
 have p0 : (1 : Int) ≤ 2 ^ k := by rcases hk4 with rfl | rfl | rfl | rfl <;> decide
 have e2 : ((2 : Int) ^ k) = ((2 ^ k : Nat) : Int) := by rw [Int.natCast_pow]; rfl
 have px : (x : Int) * 2 ^ k < 4294967296 := by
  have : (x : Int) * 2 ^ k ≤ 255 * 2 ^ k := Int.mul_le_mul_of_nonneg_right (by omega) (by omega)
  omega
 have px0 : 0 ≤ (x : Int) * 2 ^ k := Int.mul_nonneg (by omega) (by omega)
 rw [Int.emod_eq_of_lt px0 px, Int.emod_eq_of_lt (by omega) (by omega)]
 rw [show (255 : Int) * 2 ^ k = ((255 * 2 ^ k : Nat) : Int) by rw [Int.natCast_mul, ← e2]; rfl, show (x : Int) * 2 ^ k = ((x * 2 ^ k : Nat) : Int) by rw [Int.natCast_mul, ← e2]]
 have q1 : 255 * 2 ^ k < 4294967296 := by rcases hk4 with rfl | rfl | rfl | rfl <;> decide
 have q2 : x * 2 ^ k < 4294967296 := Nat.lt_of_le_of_lt (Nat.mul_le_mul_right _ (by omega : x ≤ 255)) q1
 rw [u32_andNot_nat y _ (by omega) q1, u32_or_nat _ _ (Nat.lt_of_le_of_lt Nat.and_le_left (by omega)) q2, M.put_bits y x k hk24 (by omega) (by omega)]
 have hle : y / 2 ^ k % 256 * 2 ^ k ≤ y := Nat.le_trans (Nat.mul_le_mul_right _ (Nat.mod_le _ _)) (Nat.div_mul_le_self _ _)
 rw [e2, Int.natCast_add, Int.natCast_sub hle, Int.natCast_mul, Int.natCast_mul, Int.natCast_emod, Int.natCast_ediv]
 rfl
theorem M.mix_range (y a x : Int) (h0 : 0 ≤ a) (x0 : 0 ≤ x) (x1 : x < 256) (y0 : 0 ≤ y) (y1 : y < 4294967296) : 0 ≤ M.mix y a x ∧ M.mix y a x < 4294967296 := by
 unfold M.mix
 have : a % 4 = 0 ∨ a % 4 = 1 ∨ a % 4 = 2 ∨ a % 4 = 3 := by omega
 rcases this with h | h | h | h <;> rw [h] <;> simp only [show (8 * (0 : Int)).toNat = 0 from rfl, show (8 * (1 : Int)).toNat = 8 from rfl, show (8 * (2 : Int)).toNat = 16 from rfl, show (8 * (3 : Int)).toNat = 24 from rfl] <;> omega
theorem M.mix_byte (y a x : Int) (j : Nat) (hj : j < 4) (h0 : 0 ≤ a) (x0 : 0 ≤ x) (x1 : x < 256) (y0 : 0 ≤ y) (y1 : y < 4294967296) : M.mix y a x / 2 ^ (8 * j) % 256 = if a % 4 = j then x else y / 2 ^ (8 * j) % 256 := by
 have h4 : a % 4 = 0 ∨ a % 4 = 1 ∨ a % 4 = 2 ∨ a % 4 = 3 := by omega
 have hj4 : j = 0 ∨ j = 1 ∨ j = 2 ∨ j = 3 := by omega
 have p0 : (8 * (0 : Int)).toNat = 0 := rfl
 have p1 : (8 * (1 : Int)).toNat = 8 := rfl
 have p2 : (8 * (2 : Int)).toNat = 16 := rfl
 have p3 : (8 * (3 : Int)).toNat = 24 := rfl
 by_cases c : a % 4 = j
 · rw [if_pos c]
   unfold M.mix
   rw [c]
   rcases hj4 with rfl | rfl | rfl | rfl
   · show (y - y / 2 ^ 0 % 256 * 2 ^ 0 + x * 2 ^ 0) / 2 ^ 0 % 256 = x; omega
   · show (y - y / 2 ^ 8 % 256 * 2 ^ 8 + x * 2 ^ 8) / 2 ^ 8 % 256 = x; omega
   · show (y - y / 2 ^ 16 % 256 * 2 ^ 16 + x * 2 ^ 16) / 2 ^ 16 % 256 = x; omega
   · show (y - y / 2 ^ 24 % 256 * 2 ^ 24 + x * 2 ^ 24) / 2 ^ 24 % 256 = x; omega
 · rw [if_neg c]
   unfold M.mix
   rcases h4 with h | h | h | h <;> rw [h] at c ⊢
   · rw [p0]; rcases hj4 with rfl | rfl | rfl | rfl
     · omega
     · show (y - y / 2 ^ 0 % 256 * 2 ^ 0 + x * 2 ^ 0) / 2 ^ 8 % 256 = y / 2 ^ 8 % 256; omega
     · show (y - y / 2 ^ 0 % 256 * 2 ^ 0 + x * 2 ^ 0) / 2 ^ 16 % 256 = y / 2 ^ 16 % 256; omega
     · show (y - y / 2 ^ 0 % 256 * 2 ^ 0 + x * 2 ^ 0) / 2 ^ 24 % 256 = y / 2 ^ 24 % 256; omega
   · rw [p1]; rcases hj4 with rfl | rfl | rfl | rfl
     · show (y - y / 2 ^ 8 % 256 * 2 ^ 8 + x * 2 ^ 8) / 2 ^ 0 % 256 = y / 2 ^ 0 % 256; omega
     · omega
     · show (y - y / 2 ^ 8 % 256 * 2 ^ 8 + x * 2 ^ 8) / 2 ^ 16 % 256 = y / 2 ^ 16 % 256; omega
     · show (y - y / 2 ^ 8 % 256 * 2 ^ 8 + x * 2 ^ 8) / 2 ^ 24 % 256 = y / 2 ^ 24 % 256; omega
   · rw [p2]; rcases hj4 with rfl | rfl | rfl | rfl
     · show (y - y / 2 ^ 16 % 256 * 2 ^ 16 + x * 2 ^ 16) / 2 ^ 0 % 256 = y / 2 ^ 0 % 256; omega
     · show (y - y / 2 ^ 16 % 256 * 2 ^ 16 + x * 2 ^ 16) / 2 ^ 8 % 256 = y / 2 ^ 8 % 256; omega
     · omega
     · show (y - y / 2 ^ 16 % 256 * 2 ^ 16 + x * 2 ^ 16) / 2 ^ 24 % 256 = y / 2 ^ 24 % 256; omega
   · rw [p3]; rcases hj4 with rfl | rfl | rfl | rfl
     · show (y - y / 2 ^ 24 % 256 * 2 ^ 24 + x * 2 ^ 24) / 2 ^ 0 % 256 = y / 2 ^ 0 % 256; omega
     · show (y - y / 2 ^ 24 % 256 * 2 ^ 24 + x * 2 ^ 24) / 2 ^ 8 % 256 = y / 2 ^ 8 % 256; omega
     · show (y - y / 2 ^ 24 % 256 * 2 ^ 24 + x * 2 ^ 24) / 2 ^ 16 % 256 = y / 2 ^ 16 % 256; omega
     · omega
theorem M.setB_at {B j : Nat} {w : World} (a x y k : Int) (h0 : 0 ≤ a) (h1 : a < 4294967296) (x0 : 0 ≤ x) (x1 : x < 256) (y0 : 0 ≤ y) (y1 : y < 4294967296) (hk : k = 8 * (a % 4)) (hj : (a / 4).toNat = j) (hj1 : j < 4096)
 (C : Calls Tryz.prog 90 #[.pointer (some ⟨B, 0, none⟩), .int .u32 a] w fun e w' => e = .returned (.int .i64 0) ∧ w = w')
 (hw : w.cell? ⟨B, j, none⟩ = some (.int .u32 y)) (hf : w.frozen? ⟨B, j, none⟩ = false) :
 Calls Tryz.prog 103 #[.pointer (some ⟨B, 0, none⟩), .int .u32 a, .int .u8 x] w fun e w' => e = .returned (.int .i64 0) ∧ ∃ w1 : World, Kept w w1 ∧ w' = w1.setCell ⟨B, j, none⟩ (.int .u32 (bits .or .u32 (bits .andNot .u32 y (255 * 2 ^ k.toNat % 4294967296)) (x * 2 ^ k.toNat % 4294967296))) := by
 have c4 : a / 4 < 4096 := by omega
 have hq : IntKind.u32.wrap (a.tdiv 4) = a / 4 := IntWalk.u32_quo a 4 ⟨h0, by omega, by omega⟩
 have hq0 : 0 ≤ a / 4 := by omega
 have L := fun w => M.low_any a h0 h1 w
 rw [← hk] at L
 have k0 : 0 ≤ k := by omega
 have k1 : k < 32 := by omega
 clear hk
 subst hj
 go_enter Tryz.func103, Tryz.ntmps103
 go_wp2_with (go_at_call 90; refine C.mono ?_; rintro e w' ⟨rfl, rfl⟩)
 go_quiet ((go_at_call 122; exact Calls.quiet_of_same ((L _).mono fun _ _ h => ⟨h.1, h.2.symm⟩)))
 go_wp2
 generalize hwn : w.drewN nq = w1 at *
 have hw1 : w1.cell? ⟨B, (a / 4).toNat, none⟩ = some (.int .u32 y) := by rw [← hwn]; exact hw
 have hf1 : w1.frozen? ⟨B, (a / 4).toNat, none⟩ = false := by rw [← hwn]; exact hf
 have hK := Lib.hid ((Kept.refl w).drewN nq)
 rw [hwn] at hK
 clear hwn hw hf
 go_still_tail 13, (by kernel_rfl)
 still_call ((L _).mono fun _ _ h => ⟨h.1, h.2.symm⟩)
 repeat still_step
 refine wpStill_nil ?_
 change wpList _ _ _ _ _ w1.drew
 replace hK := Lib.hid hK.out.drew
 have hw2 : w1.drew.cell? ⟨B, (a / 4).toNat, none⟩ = some (.int .u32 y) := hw1
 have hf2 : w1.drew.frozen? ⟨B, (a / 4).toNat, none⟩ = false := hf1
 clear hw1 hf1
 generalize w1.drew = w2 at *
 go_wp2
 go_ret
 exact ⟨rfl, _, hK.out, rfl⟩
theorem M.setB_any {B : Nat} {ws : List Int} {w : World} (h : MemT tyM tlM B ws w) (a x : Int) (h0 : 0 ≤ a) (h1 : a < 4294967296) (x0 : 0 ≤ x) (x1 : x < 256) :
 Calls Tryz.prog 103 #[.pointer (some ⟨B, 0, none⟩), .int .u32 a, .int .u8 x] w fun e w' => e = .returned (.int .i64 (M.bt ws a)) ∧ MemT tyM tlM B (M.setB ws a x) w' ∧ But B w w' := by
 have C := M.bt_any h a h0 h1
 have hl := h.len
 unfold M.setB
 by_cases c : M.bt ws a = 0
 · rw [if_pos c]
   have c3 := M.bt_zero h0 c
   have hr := h.rng _ (List.getElem_mem c3)
   rw [show ws.getD (a / 4).toNat 0 = ws[(a / 4).toNat] by simp [c3]]
   rw [c] at C ⊢
   have hm := M.mix_range ws[(a / 4).toNat] a x h0 x0 x1 hr.1 hr.2
   refine (M.setB_at a x _ _ h0 h1 x0 x1 hr.1 hr.2 rfl rfl (by omega) C (h.word _ c3) (h.free _)).mono fun e w' ⟨he, w1, hK, hw⟩ => ?_
   subst hw
   rw [M.put _ a x h0 x0 x1 hr.1 hr.2]
   exact ⟨he, (h.kept hK).set _ c3 _ hm.1 hm.2, (hK.but B).trans ((But.refl B w1).setCell _ _)⟩
 · rw [if_neg c]
   have R := Lib.hid h
   generalize M.bt ws a = t at *
   clear h
   go_enter Tryz.func103, Tryz.ntmps103
   go_wp2_with (go_at_call 90; refine C.mono ?_; rintro e w' ⟨rfl, rfl⟩)
   go_ret
   exact ⟨rfl, R.out, But.refl B w⟩
end Go.Proofs.YtpfgmfiegnkocaaGreat
namespace Go.Proofs.YtpfgmfiegnkocaaGreat
open Go.RowKit
set_option linter.unusedVariables false
set_option linter.unusedSimpArgs false
set_option maxRecDepth 100000
section
variable {P : Program} {ops : Array Oper} {rest : List Oper} {o : Oper} {a : Act} {Q : Exit → Act → World → Prop} {w : World}
theorem Lo.copy_rows {e t u : TypeId} {k : IntKind} (hu : P.underlying t = some (.slice e)) (hs1 : (P.info? e).map (·.size) = some 1) (hgd : o.guard = none) (d x : Operand)
 (ho : o.op = .call { callee := .builtin .copy, args := #[d, x], argTypes := #[t, u] }) (base g n cap c : Nat) (A : Option Addr) (xs ys : List Int) (hd : a.eval d = .slice (some ⟨g, 0, none⟩) n cap) (hx : a.eval x = .slice A n c)
 {e' : TypeId} (hO : Ow e' k base g n cap xs w) (hY : Rg k w A n c ys)
 (h : ∀ w', Ow e' k base g n cap ys w' → Below g w w' → wpList P ops Q rest (a.put o.dst (.int .i64 n)) w') : wpList P ops Q (o :: rest) a w := by
 obtain ⟨h1, h2, h3, h4, cur, h5, h6, h7⟩ := hO.has
 have hl := hY.len
 refine copy_has hgd d x t u ho e hu hs1 _ _ n cap n c hd hx g 0 cur e' h5 (ys.map (Value.int k)) ?_ ?_ ?_ ?_ ?_
 · rw [List.length_map, hl]; exact (Nat.min_self n).symm
 · intro hp
   rw [List.length_map, hl] at hp
   refine ⟨rfl, ?_⟩
   cases A with
   | none => have := hY.nil rfl; have := hY.le; omega
   | some ad =>
     refine ⟨ad, rfl, fun j v hj => ?_⟩
     rw [List.getElem?_map, Option.map_eq_some_iff] at hj
     obtain ⟨y, hy, rfl⟩ := hj
     exact hY.cel ad rfl j y hy
 · rw [List.length_map, hl]; omega
 · intro v hv
   obtain ⟨y, _, rfl⟩ := List.mem_map.1 hv
   rfl
 · rw [List.length_map, hl]
   refine h _ (Ow.mk' h1 h2 h3 hl _ (h5.row _) ?_ ?_) ⟨rfl, rfl, rfl, by simp [World.setRow], fun q hq => setRow_other w g q _ (by omega)⟩
   · simp only [List.take_zero, List.nil_append, List.size_toArray, List.length_append, List.length_map, List.length_drop, Array.length_toList]
     omega
   · simp only [List.take_zero, List.nil_append]
     rw [List.take_append_of_le_length (by rw [List.length_map]; omega), List.take_of_length_le (by rw [List.length_map]; omega)]
end
theorem Lo.isBase_any (b : Int) (w : World) :
 Calls Tryz.prog 38 #[.int .i64 b] w fun e w' => e = .returned (.bool (decide (Lo.base b))) ∧ w = w' := by
 by_cases c1 : 0 ≤ b
 · by_cases c2 : b ≤ 16384
   · have e1 : decide (Lo.base b) = (b % 4 == 0) := by
      by_cases c3 : b % 4 = 0
      · rw [decide_eq_true ⟨c1, c2, c3⟩]; simp [c3]
      · rw [decide_eq_false fun q : Lo.base b => c3 q.2.2]; simp [c3]
     rw [e1]
     go_enter Tryz.func38, Tryz.ntmps38
     go_wp2
     go_ret
     exact ⟨rfl, rfl⟩
   · have e1 : decide (Lo.base b) = false := decide_eq_false fun q => c2 q.2.1
     rw [e1]
     go_enter Tryz.func38, Tryz.ntmps38
     go_wp2
     go_ret
     exact ⟨rfl, rfl⟩
 · have e1 : decide (Lo.base b) = false := decide_eq_false fun q => c1 q.1
   rw [e1]
   go_enter Tryz.func38, Tryz.ntmps38
   go_wp2
   go_ret
   exact ⟨rfl, rfl⟩
structure Lo.Ok (W S : List Int) : Prop where
 hn : W.length ≤ 1024
 hr : ∀ x ∈ W, 0 ≤ x ∧ x < 4294967296
 hR : Ch.Rises W.length S
theorem Lo.may_ok {W S : List Int} {Y : List Ob.Y} (hr : ∀ x ∈ W, 0 ≤ x ∧ x < 4294967296) (h : Ob.may W S Y = 0) : Lo.Ok W S := by
 unfold Ob.may at h
 split at h
 · cases h
 rename_i h1
 split at h
 · rename_i h2
   exact ⟨by omega, hr, h2⟩
 · cases h
theorem Lo.Ok.at {W S : List Int} (h : Lo.Ok W S) (b : Int) {k s : Nat} (hk : k < S.length) (hs : S.getD k 0 = (s : Int)) (hn : s < W.length) :
 (Lo.img (S.take k) b 0 W).getD s 0 = W.getD s 0 ∧ (Lo.img (S.take k) b 0 W).set s ((W.getD s 0 + b) % 4294967296) = Lo.img (S.take (k + 1)) b 0 W := by
 have hp := ((Ob.rises_iff _ _).1 h.hR).2
 have hf := Lo.fresh hp hk
 rw [hs] at hf
 have hx : W[s]? = some (W.getD s 0) := by rw [List.getD_eq_getElem?_getD, List.getElem?_eq_getElem hn]; rfl
 refine ⟨?_, ?_⟩
 · rw [List.getD_eq_getElem?_getD, Lo.img_old hf hx]; rfl
 · rw [Lo.img_site hf hx]
   have e : S.take (k + 1) = S.take k ++ [(s : Int)] := by
    rw [List.take_add_one]
    rw [List.getD_eq_getElem?_getD, List.getElem?_eq_getElem hk] at hs
    simp only [Option.getD_some] at hs
    rw [List.getElem?_eq_getElem hk, hs]; rfl
   rw [e]
set_option maxHeartbeats 2000000 in
set_option maxRecDepth 100000 in
theorem Lo.image_any {w : World} {A B C : Option Addr} {n c m d k e : Nat} {ws ss : List Int} {ys : List Ob.Y} (hW : Wo w A n c ws) (hS : In w B m d ss) (hY : Sy w C k e ys) (hsz : ∀ y ∈ ys, y.1.size ≤ 1000000) (b : Int) :
 Calls Tryz.prog 16 #[.agg #[.slice A n c, .slice B m d, .slice C k e], .int .i64 b] w fun r w' => ∃ A' n' c', r = .returned (.tuple #[.slice A' n' c', .int .i64 (Lo.iE ws ss ys b)]) ∧ On 43 .u32 w.heap.size A' n' c' (Lo.iW ws ss ys b) w' ∧ Below w.heap.size w w' := by
 have hO := Has.new #[.slice A n c, .slice B m d, .slice C k e] 33 w
 have hB := ((Kept.refl w).alloc #[.slice A n c, .slice B m d, .slice C k e] 33).below
 have hlw := hW.len
 have hls := hS.len
 have hlc := hS.le
 have hmx := hS.max
 unfold maxLen at hmx
 have hm1 : (m : Int) ≤ 9223372036854775807 := by omega
 have hwr := hW.rng
 have hS1 : w.heap.size ≤ (w.alloc (.cells #[.slice A n c, .slice B m d, .slice C k e] 33)).heap.size := hB.size
 have hBs : m = 0 ∨ ∃ b off, B = some ⟨b, off, none⟩ := (Nat.eq_zero_or_pos m).imp_right hS.place
 have hS0 := Lib.hid hS
 replace hW := Lib.hid (hW.below hB)
 replace hS := Lib.hid (hS.below hB)
 replace hY := Lib.hid (hY.below hB)
 replace hB := Lib.hid hB
 have CM := Lib.hid (fun (v : World) (h1 : Wo v A n c ws) (h2 : In v B m d ss) (h3 : Sy v C k e ys) => Ob.may_any h1 h2 h3 hsz)
 by_cases cm : Ob.may ws ss ys = 0
 case neg =>
  obtain ⟨e1, e2⟩ := Lo.not_E (b := b) cm
  rw [e1, e2]
  generalize Ob.may ws ss ys = z at *
  have z1 : (z == 0) = false := by simpa using cm
  have z2 : (z != 0) = true := by simpa using cm
  replace hO := Lib.hid hO
  clear hwr hls hlc hmx hm1
  go_enter Tryz.func16, Tryz.ntmps16
  go_wp2_with (first
   | (with_reducible refine load_has (o := ⟨some 10, _, _, _, _, _⟩) rfl 33 (.tmp 2) rfl w.heap.size rfl hO.out Tryz.underlying33 rfl (Ob.info26 _ _ _) ?_)
   | fail)
  generalize w.alloc (.cells #[.slice A n c, .slice B m d, .slice C k e] 33) = w1 at *
  refine (CM.out _ hW.out hS.out hY.out).mono ?_; rintro r w2 ⟨rfl, hE⟩
  replace hB := Lib.hid (hB.out.trans (hE.mono hS1))
  clear hE CM hW hS hY hO
  go_wp2
  go_ret2
  exact ⟨none, 0, 0, rfl, On.none _ _ _ _, hB.out⟩
 rw [cm] at CM
 have CB := Lib.hid (Lo.isBase_any b)
 by_cases cb : Lo.base b
 case neg =>
  obtain ⟨e1, e2⟩ := Lo.bad_E cm cb
  rw [e1, e2]
  rw [decide_eq_false cb] at CB
  replace hO := Lib.hid hO
  clear hwr hls hlc hmx hm1
  go_enter Tryz.func16, Tryz.ntmps16
  go_wp2_with (first
   | (with_reducible refine load_has (o := ⟨some 10, _, _, _, _, _⟩) rfl 33 (.tmp 2) rfl w.heap.size rfl hO.out Tryz.underlying33 rfl (Ob.info26 _ _ _) ?_)
   | fail)
  generalize w.alloc (.cells #[.slice A n c, .slice B m d, .slice C k e] 33) = w1 at *
  refine (CM.out _ hW.out hS.out hY.out).mono ?_; rintro r w2 ⟨rfl, hE⟩
  replace hB := Lib.hid (hB.out.trans (hE.mono hS1))
  clear hE CM hW hS hY hO
  go_wp2_with (fail)
  refine (CB.out _).mono ?_; rintro r w3 ⟨rfl, rfl⟩
  go_wp2
  go_ret2
  exact ⟨none, 0, 0, rfl, On.none _ _ _ _, hB.out⟩
 rw [Lo.ok_E cm cb, Lo.ok_W cm cb]
 rw [decide_eq_true cb] at CB
 have hK := Lo.may_ok hwr cm
 have hn := hK.hn
 rw [hlw] at hn
 obtain ⟨b0, b1, b2⟩ := cb
 replace hK := Lib.hid hK
 replace hO := Lib.hid hO
 clear hwr cm
 go_enter Tryz.func16, Tryz.ntmps16
 go_wp2_with (first
  | (with_reducible refine load_has (o := ⟨some 10, _, _, _, _, _⟩) rfl 33 (.tmp 2) rfl w.heap.size rfl hO.out Tryz.underlying33 rfl (Ob.info26 _ _ _) ?_)
  | fail)
 generalize w.alloc (.cells #[.slice A n c, .slice B m d, .slice C k e] 33) = w1 at *
 refine (CM.out _ hW.out hS.out hY.out).mono ?_; rintro r w2 ⟨rfl, hE⟩
 replace hB := Lib.hid (hB.out.trans (hE.mono hS1))
 have hS2 : w.heap.size ≤ w2.heap.size := Nat.le_trans hS1 hE.size
 replace hO := hO.out.below hE
 replace hW := Lib.hid (hW.out.below hE)
 replace hS := Lib.hid (hS.out.below hE)
 clear hE CM hY
 have o0 := hO.cell 0 (.slice A n c) rfl
 replace hO := Lib.hid hO
 go_wp2_with (fail)
 refine (CB.out _).mono ?_; rintro r w3 ⟨rfl, rfl⟩
 clear CB
 have hn0 : (n : Int) ≤ 1024 := by omega
 go_upto_region 7 with (with_reducible refine make_rows rfl (.tmp 20) (.tmp 20) 22 rfl 43 Tryz.underlying22 L.info32 n n _ _ rfl rfl rfl rfl (Nat.le_refl _) (by omega) (by unfold maxLen; omega) ?_)
 have hR := Lib.hid (Ow.full 43 .u32 w2 n (by unfold maxLen; omega))
 have hE := ((Kept.refl w2).alloc (madeCells #[.int .u32 0] n) 43).below
 clear o0
 have o0 := (hO.out.below hE).cell 0 (.slice A n c) rfl
 have hW4 := Lib.hid (hW.out.below hE)
 replace hE := Lib.hid hE
 generalize w2.alloc (.cells (madeCells #[.int .u32 0] n) 43) = w4 at *
 go_upto_region 8 with (with_reducible refine Lo.copy_rows Tryz.underlying22 (by kernel_rfl) rfl (.tmp 22) (.tmp 24) rfl w2.heap.size w2.heap.size n n c A _ ws rfl rfl hR.out hW4.out.rg ?_; intro w5 hO5 hE5)
 clear o0 hR hW4 hW
 have hE25 := hE.out.trans hE5
 replace hO := Lib.hid (hO.out.below hE25)
 replace hB := Lib.hid (hB.out.trans (hE25.mono hS2))
 have hR := Lib.hid (hO5.lower hS2)
 have o1 := hO.out.cell 1 (.slice B m d) rfl
 clear hE hE5 hO5 hE25
 generalize w2.heap.size = g at *
 go_wp2
 clear o1
 have hR0 := Lib.hid (show Ow 43 .u32 w.heap.size g n n (Lo.img (ss.take 0) b 0 ws) w5 by rw [List.take_zero, Lo.img_nil]; exact hR.out)
 go_loopw [9, 29] (fun _ i wr => ∃ j : Nat, j ≤ m ∧ i = .int .i64 j ∧ Ow 43 .u32 w.heap.size g n n (Lo.img (ss.take j) b 0 ws) wr ∧ Below w.heap.size w wr) (fun _ i _ => m - (intOf i).toNat)
 case atStart => exact ⟨0, Nat.zero_le _, rfl, hR0.out, hB.out⟩
 case round =>
  clear hR hR0 hB hO
  obtain ⟨j, hj, rfl, hR, hB⟩ := hrel
  by_cases d1 : j < m
  · have d2 : (j : Int) < m := by omega
    obtain ⟨s, hs1, hs2, hs3⟩ := Ch.site_nat hK.out.hR j (by omega)
    rcases hBs with h0 | ⟨b', off', rfl⟩
    · omega
    obtain ⟨p1, p2⟩ := hK.out.at b (k := j) (by omega) hs1 hs2
    rw [hlw] at hs2
    have g1 := (hS0.out.below hB).at j d1
    rw [hs1] at g1
    have g2 := hR.at s hs2
    rw [p1] at g2
    have f1 := hR.free s
    have hR2 := Lib.hid (hR.set s ((ws.getD s 0 + b) % 4294967296))
    have hB2 := Lib.hid (hB.setCell (p := ⟨g, s, none⟩) hS2 (.int .u32 ((ws.getD s 0 + b) % 4294967296)))
    rw [p2] at hR2
    have hsn : (s : Int) < n := by omega
    have hx : 0 ≤ ws.getD s 0 ∧ ws.getD s 0 < 4294967296 := by rw [List.getD_eq_getElem?_getD, List.getElem?_eq_getElem (by omega)]; exact hK.out.hr _ (List.getElem_mem _)
    clear hs1 p1 p2 hR hB
    generalize ws.getD s 0 = x at *
    obtain ⟨x0, x1⟩ := hx
    go_wp2
    go_roundw
    case rel => exact ⟨j + 1, by omega, by go_num, hR2.out, hB2.out⟩
    case measure => simp [intOf]; omega
  · have d2 : ¬ (j : Int) < m := by omega
    obtain rfl : j = m := by omega
    rw [List.take_of_length_le (by omega)] at hR
    replace hR := Lib.hid hR
    replace hB := Lib.hid hB
    go_wp2
    go_ret2
    exact ⟨some ⟨g, 0, none⟩, n, n, rfl, hR.out.on, hB.out⟩
set_option maxHeartbeats 2000000 in
set_option maxRecDepth 100000 in
theorem Lo.rimage_any {w : World} {A B C : Option Addr} {n c m d k e : Nat} {ws ss : List Int} {ys : List Ob.Y} (hW : Wo w A n c ws) (hS : In w B m d ss) (hY : Sy w C k e ys) (hsz : ∀ y ∈ ys, y.1.size ≤ 1000000) (b : Int) :
 Calls Tryz.prog 23 #[.agg #[.slice A n c, .slice B m d, .slice C k e], .int .i64 b] w fun r w' => ∃ A' n' c', r = .returned (.tuple #[.slice A' n' c', .int .i64 (Lo.iE ws ss ys b)]) ∧ On 43 .u32 w.heap.size A' n' c' (Lo.iW ws ss ys b) w' ∧ Below w.heap.size w w' := by
 have hO := Has.new #[.slice A n c, .slice B m d, .slice C k e] 33 w
 have hB := ((Kept.refl w).alloc #[.slice A n c, .slice B m d, .slice C k e] 33).below
 have hlw := hW.len
 have hls := hS.len
 have hlc := hS.le
 have hmx := hS.max
 unfold maxLen at hmx
 have hm1 : (m : Int) ≤ 9223372036854775807 := by omega
 have hwr := hW.rng
 have hS1 : w.heap.size ≤ (w.alloc (.cells #[.slice A n c, .slice B m d, .slice C k e] 33)).heap.size := hB.size
 have hBs : m = 0 ∨ ∃ b off, B = some ⟨b, off, none⟩ := (Nat.eq_zero_or_pos m).imp_right hS.place
 have hS0 := Lib.hid hS
 replace hW := Lib.hid (hW.below hB)
 replace hS := Lib.hid (hS.below hB)
 replace hY := Lib.hid (hY.below hB)
 replace hB := Lib.hid hB
 have CM := Lib.hid (fun (v : World) (h1 : Wo v A n c ws) (h2 : In v B m d ss) (h3 : Sy v C k e ys) => Ob.rmay_any h1 h2 h3 hsz)
 by_cases cm : Ob.may ws ss ys = 0
 case neg =>
  obtain ⟨e1, e2⟩ := Lo.not_E (b := b) cm
  rw [e1, e2]
  generalize Ob.may ws ss ys = z at *
  have z1 : (z == 0) = false := by simpa using cm
  have z2 : (z != 0) = true := by simpa using cm
  replace hO := Lib.hid hO
  clear hwr hls hlc hmx hm1
  go_enter Tryz.func23, Tryz.ntmps23
  go_wp2_with (first
   | (with_reducible refine load_has (o := ⟨some 9, _, _, _, _, _⟩) rfl 33 (.tmp 2) rfl w.heap.size rfl hO.out Tryz.underlying33 rfl (Ob.info26 _ _ _) ?_)
   | fail)
  generalize w.alloc (.cells #[.slice A n c, .slice B m d, .slice C k e] 33) = w1 at *
  refine (CM.out _ hW.out hS.out hY.out).mono ?_; rintro r w2 ⟨rfl, hE⟩
  replace hB := Lib.hid (hB.out.trans (hE.mono hS1))
  clear hE CM hW hS hY hO
  go_wp2
  go_ret2
  exact ⟨none, 0, 0, rfl, On.none _ _ _ _, hB.out⟩
 rw [cm] at CM
 by_cases cb : Lo.base b
 case neg =>
  obtain ⟨e1, e2⟩ := Lo.bad_E cm cb
  rw [e1, e2]
  replace hO := Lib.hid hO
  clear hwr hls hlc hmx hm1
  have c3 : b < 0 ∨ (¬ b < 0 ∧ 16384 < b) ∨ (¬ b < 0 ∧ b ≤ 16384 ∧ ¬ b % 4 = 0) := by
   rcases Int.lt_or_le b 0 with q | q
   · exact Or.inl q
   · rcases Int.lt_or_le 16384 b with q2 | q2
     · exact Or.inr (Or.inl ⟨by omega, q2⟩)
     · exact Or.inr (Or.inr ⟨by omega, q2, fun q3 => cb ⟨q, q2, q3⟩⟩)
  clear cb
  go_enter Tryz.func23, Tryz.ntmps23
  go_wp2_with (first
   | (with_reducible refine load_has (o := ⟨some 9, _, _, _, _, _⟩) rfl 33 (.tmp 2) rfl w.heap.size rfl hO.out Tryz.underlying33 rfl (Ob.info26 _ _ _) ?_)
   | fail)
  generalize w.alloc (.cells #[.slice A n c, .slice B m d, .slice C k e] 33) = w1 at *
  refine (CM.out _ hW.out hS.out hY.out).mono ?_; rintro r w2 ⟨rfl, hE⟩
  replace hB := Lib.hid (hB.out.trans (hE.mono hS1))
  clear hE CM hW hS hY hO
  rcases c3 with c3 | ⟨c3, c4⟩ | ⟨c3, c4, c5⟩
  · go_wp2
    go_ret2
    exact ⟨none, 0, 0, rfl, On.none _ _ _ _, hB.out⟩
  · go_wp2
    go_ret2
    exact ⟨none, 0, 0, rfl, On.none _ _ _ _, hB.out⟩
  · have c6 : (b % 4 == 0) = false := by simpa using c5
    have c7 : (b % 4 != 0) = true := by simpa using c5
    go_wp2
    go_ret2
    exact ⟨none, 0, 0, rfl, On.none _ _ _ _, hB.out⟩
 rw [Lo.ok_E cm cb, Lo.ok_W cm cb]
 have hK := Lo.may_ok hwr cm
 have hn := hK.hn
 rw [hlw] at hn
 obtain ⟨b0, b1, b2⟩ := cb
 replace hK := Lib.hid hK
 replace hO := Lib.hid hO
 clear hwr cm
 go_enter Tryz.func23, Tryz.ntmps23
 go_wp2_with (first
  | (with_reducible refine load_has (o := ⟨some 9, _, _, _, _, _⟩) rfl 33 (.tmp 2) rfl w.heap.size rfl hO.out Tryz.underlying33 rfl (Ob.info26 _ _ _) ?_)
  | fail)
 generalize w.alloc (.cells #[.slice A n c, .slice B m d, .slice C k e] 33) = w1 at *
 refine (CM.out _ hW.out hS.out hY.out).mono ?_; rintro r w2 ⟨rfl, hE⟩
 replace hB := Lib.hid (hB.out.trans (hE.mono hS1))
 have hS2 : w.heap.size ≤ w2.heap.size := Nat.le_trans hS1 hE.size
 replace hO := hO.out.below hE
 replace hW := Lib.hid (hW.out.below hE)
 replace hS := Lib.hid (hS.out.below hE)
 clear hE CM hY
 have o0 := hO.cell 0 (.slice A n c) rfl
 have o1 := hO.cell 1 (.slice B m d) rfl
 have hn0 : (n : Int) ≤ 1024 := by omega
 have b3 : ¬ b < 0 := by omega
 have b4 : ¬ 16384 < b := by omega
 have b5 : (b % 4 == 0) = true := by simpa using b2
 have b6 : (b % 4 != 0) = false := by simpa using b2
 have hR := Lib.hid (Ow.new 43 .u32 w2 w2.heap.size (Nat.le_refl _))
 have hE := ((Kept.refl w2).alloc #[] 43).below
 have hW4 := Lib.hid (hW.out.below hE)
 have hs2 : w2.heap.size ≤ (w2.alloc (.cells #[] 43)).heap.size := hE.size
 have o0' := (hO.below hE).cell 0 (.slice A n c) rfl
 replace hO := Lib.hid hO
 replace hE := Lib.hid hE
 go_upto_region 7 with (with_reducible refine append_row (o := ⟨some 28, _, _, _, _, _⟩) Tryz.underlying22 L.info32 (by omega) rfl (.tmp 25) (.tmp 27) rfl w2.heap.size w2.heap.size 0 0 [] rfl hR.out A n c ws rfl hW4.out (by omega) hs2 ?_; intro g cap w5 hO5 hG5)
 rw [List.nil_append, Nat.zero_add] at hO5
 clear o0 o0' o1 hW4 hW
 have hE25 := hE.out.grown hG5 hs2 (fun q e => by cases e; exact Nat.le_refl _)
 replace hO := Lib.hid (hO.out.below hE25)
 replace hB := Lib.hid (hB.out.trans (hE25.mono hS2))
 have hgb : w.heap.size ≤ g := Nat.le_trans hS2 hO5.has.1
 have hR := Lib.hid (hO5.lower hS2)
 have hOb := hO.out.lt
 have hne : w.heap.size ≠ g := (hO5.on.ne hO.out (by decide) g rfl).symm
 clear hE hG5 hO5 hE25 hs2
 try simp only [Nat.zero_add]
 have hR0 := Lib.hid (show Ow 43 .u32 w.heap.size g n cap (Lo.img (ss.take 0) b 0 ws) w5 by rw [List.take_zero, Lo.img_nil]; exact hR.out)
 go_wp2
 go_loopw [8] (fun i wr => ∃ j : Nat, j ≤ m ∧ i = .int .i64 j ∧ Ow 43 .u32 w.heap.size g n cap (Lo.img (ss.take j) b 0 ws) wr ∧ Has w.heap.size #[.slice A n c, .slice B m d, .slice C k e] 33 wr ∧ Below w.heap.size w wr) (fun i _ => m - (intOf i).toNat)
 case atStart => exact ⟨0, Nat.zero_le _, rfl, hR0.out, hO.out, hB.out⟩
 case round =>
  clear hR hR0 hB hO
  obtain ⟨j, hj, rfl, hR, hO, hB⟩ := hrel
  have o1 := hO.cell 1 (.slice B m d) rfl
  by_cases d1 : j < m
  · have d2 : (j : Int) < m := by omega
    obtain ⟨s, hs1, hs2, hs3⟩ := Ch.site_nat hK.out.hR j (by omega)
    rcases hBs with h0 | ⟨b', off', rfl⟩
    · omega
    obtain ⟨p1, p2⟩ := hK.out.at b (k := j) (by omega) hs1 hs2
    rw [hlw] at hs2
    have g1 := (hS0.out.below hB).at j d1
    rw [hs1] at g1
    have g2 := hR.at s hs2
    rw [p1] at g2
    have f1 := hR.free s
    have hR2 := Lib.hid ((show Ow 43 .u32 w.heap.size g n cap (Lo.img (ss.take j) b 0 ws) wr.drew from hR).set s ((ws.getD s 0 + b) % 4294967296))
    have hB2 := Lib.hid (hB.drew.setCell (p := ⟨g, s, none⟩) hgb (.int .u32 ((ws.getD s 0 + b) % 4294967296)))
    have hO2 := Lib.hid (hO.drew.other (p := ⟨g, s, none⟩) hne (.int .u32 ((ws.getD s 0 + b) % 4294967296)))
    have g2d : wr.drew.cell? ⟨g, s, none⟩ = some (.int .u32 (ws.getD s 0)) := g2
    have f1d : wr.drew.frozen? ⟨g, s, none⟩ = false := f1
    replace g2d := Lib.hid g2d
    replace f1d := Lib.hid f1d
    rw [p2] at hR2
    have hsn : (s : Int) < n := by omega
    have hx : 0 ≤ ws.getD s 0 ∧ ws.getD s 0 < 4294967296 := by rw [List.getD_eq_getElem?_getD, List.getElem?_eq_getElem (by omega)]; exact hK.out.hr _ (List.getElem_mem _)
    have qb : IntKind.u32.wrap b = b := by rw [IntKind.wrap_u32]; omega
    have qx : IntKind.u32.wrap (ws.getD s 0 + b) = (ws.getD s 0 + b) % 4294967296 := by rw [IntKind.wrap_u32]
    clear hs1 p1 p2 hR hB hO
    generalize ws.getD s 0 = x at *
    obtain ⟨x0, x1⟩ := hx
    replace qx := Lib.hid qx
    go_wp2_with (fail)
    go_still_tail 18, (by kernel_rfl)
    change wpList _ _ _ _ _ wr.drew
    clear g1 g2 f1 o1
    have g2 := g2d.out
    have f1 := f1d.out
    clear g2d f1d
    generalize wr.drew = wd at *
    rw [qx.out]
    go_wp2
    go_roundw
    case rel => exact ⟨j + 1, by omega, by go_num, hR2.out, hO2.out, hB2.out⟩
    case measure => simp [intOf]; omega
  · have d2 : ¬ (j : Int) < m := by omega
    obtain rfl : j = m := by omega
    rw [List.take_of_length_le (by omega)] at hR
    replace hR := Lib.hid hR
    replace hB := Lib.hid hB
    replace hO := Lib.hid hO
    go_wp2
    go_ret2
    exact ⟨some ⟨g, 0, none⟩, n, cap, rfl, hR.out.on, hB.out⟩
end Go.Proofs.YtpfgmfiegnkocaaGreat
namespace Go.Proofs.YtpfgmfiegnkocaaGreat
open Go.RowKit
variable {tyM : TypeId} {tlM : List Value}
set_option linter.unusedVariables false
set_option linter.unusedSimpArgs false
set_option maxRecDepth 100000
def M.placed (ws : List Int) (k : Nat) (xs : List Int) : List Int := ws.take k ++ xs ++ ws.drop (k + xs.length)
theorem M.placed_in (ws ys : List Int) (k j : Nat) (hk : k + ys.length ≤ ws.length) (h1 : k ≤ j) (h2 : j < k + ys.length) : (M.placed ws k ys)[j]? = ys[j - k]? := by
 unfold M.placed
 rw [List.getElem?_append_left (by simp; omega), List.getElem?_append_right (by simp; omega), show j - (List.take k ws).length = j - k by simp; omega]
theorem M.placed_out (ws ys : List Int) (k j : Nat) (hk : k + ys.length ≤ ws.length) (h : ¬ (k ≤ j ∧ j < k + ys.length)) : (M.placed ws k ys)[j]? = ws[j]? := by
 unfold M.placed
 by_cases c1 : j < k
 · rw [List.append_assoc, List.getElem?_append_left (by simp; omega), List.getElem?_take, if_pos c1]
 · rw [List.getElem?_append_right (by simp; omega), List.getElem?_drop, show k + ys.length + (j - (List.take k ws ++ ys).length) = j by simp; omega]
theorem M.placed_len (ws ys : List Int) (k : Nat) (hk : k + ys.length ≤ ws.length) : (M.placed ws k ys).length = ws.length := by unfold M.placed; simp; omega
theorem M.place_no {B : Nat} {ws : List Int} {w : World} (h : MemT tyM tlM B ws w) (k : Int) (A : Option Addr) (n c : Nat) (hn : n ≤ maxLen) (k0 : -9223372036854775808 ≤ k) (k1 : k ≤ 9223372036854775807) (hf : k < 0 ∨ (ws.length : Int) < k + n) :
 Calls Tryz.prog 40 #[.pointer (some ⟨B, 0, none⟩), .int .i64 k, .slice A n c] w fun e w' => e = .returned (.int .i64 11) ∧ w = w' := by
 have hc := h.count
 have hl := h.len
 unfold maxLen at hn
 have hn1 : (n : Int) ≤ 9223372036854775807 := by omega
 clear h
 rcases Int.lt_or_le k 0 with h | h
 · go_enter Tryz.func40, Tryz.ntmps40
   go_wp2
   go_ret
   exact ⟨rfl, rfl⟩
 · have h1 : (ws.length : Int) - k < n := by omega
   have h2 : ¬ k < 0 := by omega
   have h3 : decide (k < 0) = false := decide_eq_false h2
   clear hf
   go_enter Tryz.func40, Tryz.ntmps40
   go_wp2
   go_ret
   exact ⟨rfl, rfl⟩
theorem M.place_yes {B : Nat} {ws : List Int} {w : World} (h : MemT tyM tlM B ws w) (k : Nat) (A : Option Addr) (n c : Nat) (xs : List Int) (hx : Ws w A n c xs) (hf : k + n ≤ ws.length) :
 Calls Tryz.prog 40 #[.pointer (some ⟨B, 0, none⟩), .int .i64 k, .slice A n c] w fun e w' => e = .returned (.int .i64 0) ∧ MemT tyM tlM B (M.placed ws k xs) w' ∧ But B w w' := by
 have hc := h.count
 have hl := h.len
 have h2 : ¬ (k : Int) < 0 := by omega
 have h3 : decide ((k : Int) < 0) = false := decide_eq_false h2
 have h4 : ¬ (ws.length : Int) - k < n := by omega
 have h5 : (n : Int) ≤ (ws.length : Int) - k := by omega
 obtain ⟨cs, hh, hs, hh3, hh4, hh5⟩ := h.has
 have hxl := hx.len
 have R := Lib.hid (h.drew.place k xs (by omega) hx.rng cs hh hs hh3 hh4 hh5)
 have hX := Lib.hid hx
 have hH := Lib.hid hh
 have hl0 : (ws.length : Int) ≤ 4096 := by omega
 have hk0 : (k : Int) ≤ ws.length := by omega
 generalize hN : ws.length = N at *
 clear h hx hh hh3 hh4 hh5
 go_enter Tryz.func40, Tryz.ntmps40
 go_wp2
 go_still_tail 10, (by kernel_rfl)
 change wpList _ _ _ _ _ w.drew
 refine copy_has rfl (.tmp 28) (.tmp 29) 22 22 rfl 43 Tryz.underlying22 (by kernel_rfl) _ _ _ _ _ _ rfl rfl B k cs tyM (show Has B cs tyM w.drew from hH.out) (xs.map (Value.int .u32)) ?_ ?_ ?_ ?_ ?_
 · rw [List.length_map, hxl]
   show n = Nat.min n (N - k)
   exact (Nat.min_eq_left (by omega)).symm
 · intro hp
   rw [List.length_map, hxl] at hp
   refine ⟨?_, ?_⟩
   · rw [if_neg (by omega)]
   · cases A with
     | none => have := hX.out.nil rfl; have := hX.out.le; omega
     | some ad =>
       refine ⟨ad, rfl, fun j v hj => ?_⟩
       rw [List.getElem?_map, Option.map_eq_some_iff] at hj
       obtain ⟨x, hx, rfl⟩ := hj
       exact hX.out.cel ad rfl j x hx
 · rw [List.length_map, hxl, hs]; omega
 · intro v hv
   obtain ⟨x, _, rfl⟩ := List.mem_map.1 hv
   rfl
 · generalize hW : w.drew.setRow _ _ = w2 at *
   have hB : But B w w2 := by rw [← hW]; exact ((But.refl B w).drew).setRow _
   replace hB := Lib.hid hB
   clear hW
   go_wp2
   all_goals (go_ret; exact ⟨rfl, R.out, hB.out⟩)
theorem make_row {P : Program} {w : World} {ops : Array Oper} {rest : List Oper} {o : Oper} {a : Act} {Q : Exit → Act → World → Prop} (hgd : o.guard = none) (l c : Operand) (t : TypeId) (ho : o.op = .makeSlice t l c)
 (e : TypeId) {z : Value} {b : Nat} (h1 : P.underlying t = some (.slice e)) (hi : (P.info? e).map (fun i => (i.zero, i.size, i.bytes)) = some (some z, 1, b)) (n : Nat) (hl : a.eval l = .int .i64 n) (hc : a.eval c = .int .i64 n)
 (b2 : b * n ≤ 281474976710656) (b3 : n ≤ maxLen)
 (h : wpList P ops Q rest (a.put o.dst (.slice (some ⟨w.heap.size, 0, none⟩) n n)) (w.alloc (.cells (madeCells z.cells n) e))) : wpList P ops Q (o :: rest) a w := by
 refine wpList_plain hgd fun K hK => ?_
 obtain ⟨i, hi, hz, hs, hb⟩ := info_parts hi
 have b4 : (i.bytes : Int) * (n : Int) ≤ 281474976710656 := by rw [hb, ← Int.natCast_mul]; exact Int.ofNat_le.2 b2
 have hrun := run_make (P := P) w t e i z h1 hi hz .i64 .i64 n n (by omega) (Int.le_refl _) b4 (by unfold maxLen at b3; omega)
 rw [Int.toNat_natCast, hs, Nat.mul_one] at hrun
 unfold Oper.wp
 simp [execOp, ho, hl, hc, hrun, Result.andThen]
 exact hK _ _ h
theorem M.info32 : (Tryz.prog.info? 43).map (fun i => (i.zero, i.size, i.bytes)) = some (some (.int .u32 0), 1, 4) := by kernel_rfl
theorem M.words_has {B : Nat} {ws : List Int} {w : World} (h : MemT tyM tlM B ws w) :
 Calls Tryz.prog 34 #[.pointer (some ⟨B, 0, none⟩)] w fun e w' => ∃ g, e = .returned (.slice (some ⟨g, 0, none⟩) ws.length ws.length) ∧ w.heap.size ≤ g ∧ Has g (ws.map (Value.int .u32)).toArray 43 w' ∧ Kept w w' := by
 have hc := h.count
 have hl := h.len
 have H := Lib.hid h
 have hl0 : (ws.length : Int) ≤ 4096 := by omega
 generalize hN : ws.length = N at *
 clear h
 go_enter Tryz.func34, Tryz.ntmps34
 go_upto_region 2 with (with_reducible refine make_row rfl (.tmp 7) (.tmp 7) 22 rfl 43 Tryz.underlying22 M.info32 N rfl rfl (by omega) (by unfold maxLen; omega) ?_)
 have hG := Lib.hid (Has.new (madeCells #[Value.int .u32 0] N) 43 w)
 have hK := (Kept.refl w).alloc (madeCells #[Value.int .u32 0] N) 43
 have hM := Lib.hid (H.out.kept hK)
 have hB : B < w.heap.size := H.out.lt
 replace hK := Lib.hid hK
 have hc1 := hM.out.count
 rw [hN] at hc1
 clear hc H
 generalize w.alloc (.cells (madeCells #[Value.int .u32 0] N) 43) = w1 at *
 generalize hg : w.heap.size = g at *
 go_still_tail 9, (by kernel_rfl)
 change wpList _ _ _ _ _ w1.drew
 refine copy_has rfl (.tmp 9) (.tmp 17) 22 22 rfl 43 Tryz.underlying22 (by kernel_rfl) _ _ _ _ _ _ rfl rfl g 0 (madeCells #[Value.int .u32 0] N) 43 (show Has g _ 43 w1.drew from hG.out) (ws.map (Value.int .u32)) ?_ ?_ ?_ ?_ ?_
 · rw [List.length_map, hN]
   exact (Nat.min_self N).symm
 · intro hp
   refine ⟨rfl, _, rfl, fun j v hj => ?_⟩
   rw [List.getElem?_map, Option.map_eq_some_iff] at hj
   obtain ⟨x, hx, rfl⟩ := hj
   obtain ⟨cs, q1, q2, q3, q4, _⟩ := hM.out.has
   rw [show (⟨B, 0, none⟩ : Addr).add j = ⟨B, j, none⟩ by cases j <;> simp [Addr.add]]
   exact q1.cell j _ (q4 j x hx)
 · rw [List.length_map, hN, size_madeCells]; omega
 · intro v hv
   obtain ⟨x, _, rfl⟩ := List.mem_map.1 hv
   rfl
 · have e : (List.take 0 (madeCells #[Value.int .u32 0] N).toList ++ ws.map (Value.int .u32) ++ List.drop (0 + (ws.map (Value.int .u32)).length) (madeCells #[Value.int .u32 0] N).toList).toArray = (ws.map (Value.int .u32)).toArray := by
    rw [List.drop_of_length_le (by simp [size_madeCells, hN])]; simp
   rw [e]
   have hR := Lib.hid (Has.row (show Has g _ 43 w1.drew from hG.out) (ws.map (Value.int .u32)).toArray)
   replace hK := Lib.hid (hK.out.drew.thenBut ((But.refl g w1.drew).setRow (ws.map (Value.int .u32)).toArray) (by omega))
   generalize w1.drew.setRow g _ = w2 at *
   have rg := Lib.hid hM.out.rng
   clear hG hM hc1 e
   go_wp2
   go_ret
   exact ⟨g, rfl, Nat.le_of_eq hg, hR.out, hK.out⟩
theorem Has.ws {w : World} {g : Nat} {t : TypeId} {ws : List Int} (h : Has g (ws.map (Value.int .u32)).toArray t w) (hl : ws.length ≤ 9000000000) (hr : ∀ x ∈ ws, 0 ≤ x ∧ x < 4294967296) : Ws w (some ⟨g, 0, none⟩) ws.length ws.length ws := by
 refine ⟨rfl, Nat.le_refl _, by unfold maxLen; omega, by simp, hr, fun ad e j x hx => ?_⟩
 cases e
 rw [show (⟨g, 0, none⟩ : Addr).add j = ⟨g, j, none⟩ by cases j <;> simp [Addr.add]]
 exact h.cell j _ (by rw [List.getElem?_toArray, List.getElem?_map, hx]; rfl)
theorem M.words_any {B : Nat} {ws : List Int} {w : World} (h : MemT tyM tlM B ws w) :
 Calls Tryz.prog 34 #[.pointer (some ⟨B, 0, none⟩)] w fun e w' => ∃ g, e = .returned (.slice (some ⟨g, 0, none⟩) ws.length ws.length) ∧ w.heap.size ≤ g ∧ Ws w' (some ⟨g, 0, none⟩) ws.length ws.length ws ∧ Kept w w' := by
 refine (M.words_has h).mono fun e w' ⟨g, he, hg, hh, hK⟩ => ⟨g, he, hg, hh.ws (by have := h.len; omega) h.rng, hK⟩
end Go.Proofs.YtpfgmfiegnkocaaGreat
namespace Go.Proofs.YtpfgmfiegnkocaaGreat
open Go.RowKit
set_option linter.unusedVariables false
set_option linter.unusedSimpArgs false
set_option maxRecDepth 100000
theorem Ws.addr {w : World} {ad : Addr} {n c : Nat} {xs : List Int} (h : Ws w (some ad) n c xs) (hn : 0 < n) : ∃ b off, ad = ⟨b, off, none⟩ := by
 have hl : 0 < xs.length := by have := h.len; omega
 have hx := h.cel ad rfl 0 _ (List.getElem?_eq_getElem hl)
 obtain ⟨b, off, spot⟩ := ad
 have hspot : spot = none := by simpa [Addr.add] using World.cell?_spot hx
 subst hspot
 exact ⟨b, off, rfl⟩
theorem Ws.cellAt {w : World} {b off n c : Nat} {xs : List Int} (h : Ws w (some ⟨b, off, none⟩) n c xs) (j : Nat) (x : Int) (hx : xs[j]? = some x) : w.cell? ⟨b, off + j, none⟩ = some (.int .u32 x) := by
 have := h.cel _ rfl j x hx
 rwa [show (⟨b, off, none⟩ : Addr).add j = ⟨b, off + j, none⟩ by cases j <;> simp [Addr.add]] at this
theorem Ws.one {w : World} {g : Nat} {x : Int} {t : TypeId} (h : Has g #[.int .u32 x] t w) (h0 : 0 ≤ x) (h1 : x < 4294967296) : Ws w (some ⟨g, 0, none⟩) 1 1 [x] :=
 ⟨rfl, Nat.le_refl _, by simp [maxLen], by simp, by simpa using ⟨h0, h1⟩, fun ad e j y hy => by
  cases e
  match j, hy with
  | 0, hy => simp at hy; subst hy; exact h.cell 0 _ rfl⟩
theorem below_kept {N : Nat} {a b c : World} (h : Below N a b) (k : Kept b c) (hN : N ≤ b.heap.size) : Below N a c := h.trans (k.below.mono hN)
def Own (base g n cap : Nat) (xs : List Int) (w : World) : Prop := w.ownsRow base 43 1 (.slice (some ⟨g, 0, none⟩) n cap) n (xs.map (Value.int .u32))
theorem Own.has {base g n cap : Nat} {xs : List Int} {w : World} (h : Own base g n cap xs w) : base ≤ g ∧ n ≤ cap ∧ cap ≤ maxLen ∧ xs.length = n ∧ ∃ cur : Array Value, Has g cur 43 w ∧ cur.size = cap ∧ cur.toList.take n = xs.map (Value.int .u32) := by
 obtain ⟨h1, h2⟩ := h
 rcases h2 with ⟨h2, _⟩ | ⟨g', cap', cur, hv, hb, hh, hle, hm, hs, ht⟩
 · cases h2
 · cases hv
   rw [Nat.mul_one] at hs ht h1
   exact ⟨hb, hle, hm, by simpa using h1, cur, hh, hs, ht⟩
theorem Own.ws {base g n cap : Nat} {xs : List Int} {w : World} (h : Own base g n cap xs w) (hr : ∀ x ∈ xs, 0 ≤ x ∧ x < 4294967296) : Ws w (some ⟨g, 0, none⟩) n cap xs := by
 obtain ⟨h1, h2, h3, h4, cur, hh, hs, ht⟩ := h.has
 refine ⟨h4, h2, h3, by simp, hr, fun ad e j x hx => ?_⟩
 cases e
 rw [show (⟨g, 0, none⟩ : Addr).add j = ⟨g, j, none⟩ by cases j <;> simp [Addr.add]]
 have hj : j < n := by
  rcases Nat.lt_or_ge j n with h1 | h1
  · exact h1
  · rw [List.getElem?_eq_none (by omega)] at hx; cases hx
 refine hh.cell j _ ?_
 have : (cur.toList.take n)[j]? = some (Value.int .u32 x) := by rw [ht, List.getElem?_map, hx]; rfl
 rw [List.getElem?_take, if_pos hj] at this
 simpa using this
theorem Own.new (w : World) (base : Nat) (hb : base ≤ w.heap.size) : Own base w.heap.size 0 0 [] (w.alloc (.cells #[] 43)) :=
 ⟨rfl, Or.inr ⟨w.heap.size, 0, #[], rfl, hb, heap_alloc_last _ _, Nat.le_refl _, by simp [maxLen], rfl, rfl⟩⟩
theorem append_words {w : World} {ops : Array Oper} {rest : List Oper} {o : Oper} {a : Act} {Q : Exit → Act → World → Prop} (hgd : o.guard = none) (s x : Operand)
 (ho : o.op = .call { callee := .builtin .append, args := #[s, x], argTypes := #[22, 22] }) (base g n cap : Nat) (xs : List Int) (hs : a.eval s = .slice (some ⟨g, 0, none⟩) n cap) (hown : Own base g n cap xs w)
 (A : Option Addr) (m c : Nat) (ys : List Int) (hx : a.eval x = .slice A m c) (hY : Ws w A m c ys) (hb : n + m ≤ 1000000000000) (hbase : base ≤ w.heap.size)
 (h : ∀ g' cap' w', Own base g' (n + m) cap' (xs ++ ys) w' → w.grownBy w' (some g) → wpList Tryz.prog ops Q rest (a.put o.dst (.slice (some ⟨g', 0, none⟩) (n + m) cap')) w') : wpList Tryz.prog ops Q (o :: rest) a w := by
 obtain ⟨i0, hi, hz0, hz1, hz2⟩ := info_parts M.info32
 cases A with
 | none =>
   have hc := hY.nil rfl
   have hm : m = 0 := by have := hY.le; omega
   subst hc hm
   have hy : ys = [] := List.eq_nil_of_length_eq_zero hY.len
   subst hy
   refine wpList_append_own_none hgd s x 22 ho base 43 i0 1 Tryz.underlying22 hi _ n _ hs hown hx ?_
   have := h g cap w (by rw [Nat.add_zero, List.append_nil]; exact hown) ⟨rfl, rfl, rfl, Nat.le_refl _, fun _ _ _ => rfl⟩
   exact this
 | some ad =>
   refine wpList_append_own w hgd s x 22 ho base 43 i0 (.int .u32 0) 1 4 Tryz.underlying22 hi hz0 hz1 hz2 rfl (by decide) _ n (xs.map (Value.int .u32)) hs hown ad m c (ys.map (Value.int .u32)) hx (by rw [List.length_map, hY.len, Nat.mul_one]) ?_ ?_ (by unfold maxLen; omega) (by omega) hbase ?_
   · intro j u hj
     rw [List.getElem?_map, Option.map_eq_some_iff] at hj
     obtain ⟨y, hy, rfl⟩ := hj
     exact hY.cel ad rfl j y hy
   · intro u hu
     obtain ⟨y, _, rfl⟩ := List.mem_map.1 hu
     rfl
   · intro v' w' h1 h2 h3
     have hv : ∃ g' cap', v' = .slice (some ⟨g', 0, none⟩) (n + m) cap' := by
      rcases h1.2 with ⟨h4, _⟩ | ⟨g', cap', cur, h4, _⟩
      · have := (h3.1 h4).1
        cases this
      · exact ⟨g', cap', h4⟩
     obtain ⟨g', cap', rfl⟩ := hv
     rw [← List.map_append] at h1
     exact h g' cap' w' h1 h2
end Go.Proofs.YtpfgmfiegnkocaaGreat
namespace Go.Proofs.YtpfgmfiegnkocaaGreat.W
open Go.RowKit
set_option linter.unusedVariables false
set_option linter.unusedSimpArgs false
set_option maxRecDepth 100000
def sgn (a : Int) : Int := if a < 2147483648 then a else a - 4294967296
def one (c : Bool) : Int := if c then 1 else 0
def inS (x : Int) : Bool := decide (-2147483648 ≤ x) && decide (x ≤ 2147483647)
def low (x : Int) : Int := x % 4294967296
def over (x : Int) : Bool := decide (4294967295 < x)
def neg (x : Int) : Bool := decide (x < 0)
theorem sgn_lo (a : Int) (h0 : 0 ≤ a) : -2147483648 ≤ sgn a := by unfold sgn; split <;> omega
theorem sgn_hi (a : Int) (h1 : a < 4294967296) : sgn a ≤ 2147483647 := by unfold sgn; split <;> omega
theorem wrap_sgn (a : Int) (h0 : 0 ≤ a) (h1 : a < 4294967296) : wrap64 (wrap32 a) = sgn a := by
 unfold wrap64 wrap32 sgn; split <;> omega
theorem wrap32_sgn (a : Int) (h0 : 0 ≤ a) (h1 : a < 4294967296) : wrap32 a = sgn a := by
 unfold wrap32 sgn; split <;> omega
theorem one_lo (c : Bool) : 0 ≤ one c := by cases c <;> decide
theorem one_hi (c : Bool) : one c ≤ 1 := by cases c <;> decide
theorem low_lo (x : Int) : 0 ≤ low x := by unfold low; omega
theorem low_hi (x : Int) : low x < 4294967296 := by unfold low; omega
def prod (u : Bool) (a b : Int) : Int := if u then a * b else sgn a * sgn b
theorem wrapU (p : Int) : IntKind.u64.wrap p % 4294967296 = low p := by rw [IntKind.wrap_u64]; unfold low; omega
theorem wrapU' (p : Int) : IntKind.u64.wrap p / 4294967296 % 4294967296 = low (p / 4294967296) := by rw [IntKind.wrap_u64]; unfold low; omega
theorem wrapS (p : Int) : IntKind.u64.wrap (wrap64 p) % 4294967296 = low p := by rw [IntKind.wrap_u64]; unfold low wrap64; omega
theorem wrapS' (p : Int) : IntKind.u64.wrap (wrap64 p) / 4294967296 % 4294967296 = low (p / 4294967296) := by rw [IntKind.wrap_u64]; unfold low wrap64; omega
theorem mul_lo (x y : Int) (hx : 0 ≤ x) (hy : 0 ≤ y) : 0 ≤ x * y := Int.mul_nonneg hx hy
theorem mul_hi (x y m n : Int) (hx : 0 ≤ x) (hy : 0 ≤ y) (h : x ≤ m) (k : y ≤ n) : x * y ≤ m * n :=
 Int.le_trans (Int.mul_le_mul_of_nonneg_right h hy) (Int.mul_le_mul_of_nonneg_left k (by omega))
theorem halves (a b : Int) : a * b = a % 65536 * (b % 65536) + (a % 65536 * (b / 65536) + a / 65536 * (b % 65536)) * 65536 + a / 65536 * (b / 65536) * 4294967296 := by
 have ha : a = a / 65536 * 65536 + a % 65536 := by omega
 have hb : b = b / 65536 * 65536 + b % 65536 := by omega
 generalize a / 65536 = y at *
 generalize a % 65536 = x at *
 generalize b / 65536 = v at *
 generalize b % 65536 = u at *
 subst ha hb
 have e1 : (y * 65536 + x) * (v * 65536 + u) = y * 65536 * (v * 65536) + y * 65536 * u + (x * (v * 65536) + x * u) := by
  rw [Int.add_mul, Int.mul_add, Int.mul_add]
 have e2 : y * 65536 * (v * 65536) = y * v * 4294967296 := by
  rw [Int.mul_assoc, Int.mul_comm 65536 (v * 65536), Int.mul_assoc, ← Int.mul_assoc]; rfl
 have e3 : y * 65536 * u = y * u * 65536 := by rw [Int.mul_assoc, Int.mul_comm 65536 u, ← Int.mul_assoc]
 have e4 : x * (v * 65536) = x * v * 65536 := by rw [← Int.mul_assoc]
 rw [e1, e2, e3, e4]; omega
theorem signs (a b : Int) : sgn a * sgn b = a * b - (if a < 2147483648 then 0 else b) * 4294967296 - (if b < 2147483648 then 0 else a) * 4294967296 + (if a < 2147483648 then 0 else if b < 2147483648 then 0 else 18446744073709551616) := by
 unfold sgn
 have e (x y : Int) : (x - 4294967296) * y = x * y - y * 4294967296 := by rw [Int.sub_mul, Int.mul_comm 4294967296 y]
 have f (x y : Int) : x * (y - 4294967296) = x * y - x * 4294967296 := by rw [Int.mul_sub]
 split <;> split
 · omega
 · rw [f]; omega
 · rw [e]; omega
 · rw [e, f]; omega
theorem sgn_of_lt (a : Int) (h0 : 0 ≤ a) (h1 : a < 4294967296) (h : W.sgn a < 0) : ¬ a < 2147483648 := by unfold sgn at h; split at h <;> omega
theorem sgn_of_ge (a : Int) (h : 0 ≤ W.sgn a) (h1 : a < 4294967296) : a < 2147483648 := by unfold sgn at h; split at h <;> omega
theorem half_low (u : Bool) (a b : Int) : a % 65536 * (b % 65536) % 65536 + (a % 65536 * (b / 65536) + a / 65536 * (b % 65536) + a % 65536 * (b % 65536) / 65536) % 65536 * 65536 = low (prod u a b) := by
 have h := halves a b
 have hs := signs a b
 have e : low (prod u a b) = a * b % 4294967296 := by
  cases u
  · simp only [prod, low, Bool.false_eq_true, if_false]; rw [hs]; repeat' split
    all_goals omega
  · simp only [prod, low, if_true]
 rw [e]; omega
theorem half_high (a b : Int) : a / 65536 * (b / 65536) + (a % 65536 * (b / 65536) + a / 65536 * (b % 65536) + a % 65536 * (b % 65536) / 65536) / 65536 = a * b / 4294967296 := by
 have h := halves a b
 omega
theorem high_of (a b c d : Int) (hc : c = if a < 2147483648 then 0 else b) (hd : d = if b < 2147483648 then 0 else a) : (a * b / 4294967296 - c - d + 17179869184) % 4294967296 = low (prod false a b / 4294967296) := by
 simp only [prod, low, Bool.false_eq_true, if_false]
 rw [signs a b, ← hc, ← hd]
 split
 · omega
 · split <;> omega
theorem quo_pos (x y : Int) (_hy : 0 < y) (h : ¬ x.tmod y < 0) : x.tdiv y = x / y ∧ x.tmod y = x % y := by
 have h1 := Int.mul_tdiv_add_tmod x y
 have hlt := Int.tmod_lt_of_pos x _hy
 have hm : x % y = x.tmod y := by
  have : x = x.tmod y + y * x.tdiv y := by omega
  rw [this, Int.add_mul_emod_self_left]
  have e := Int.emod_eq_of_lt (a := x.tmod y) (b := y) (by omega) hlt
  rw [← this]; exact e
 have hd := Int.emod_add_mul_ediv x y
 refine ⟨?_, hm.symm⟩
 have : y * x.tdiv y = y * (x / y) := by omega
 exact Int.eq_of_mul_eq_mul_left (by omega) this
theorem quo_neg (x y : Int) (_hy : 0 < y) (h : x.tmod y < 0) : x.tdiv y - 1 = x / y ∧ x.tmod y + y = x % y := by
 have h1 := Int.mul_tdiv_add_tmod x y
 have hlt : -y < x.tmod y := Int.lt_tmod_of_pos x _hy
 have hm : x % y = x.tmod y + y := by
  have e0 : y * (x.tdiv y - 1) = y * x.tdiv y - y := by rw [Int.mul_sub, Int.mul_one]
  have : x = x.tmod y + y + y * (x.tdiv y - 1) := by rw [e0]; omega
  rw [this, Int.add_mul_emod_self_left, ← this]
  exact Int.emod_eq_of_lt (by omega) (by omega)
 have hd := Int.emod_add_mul_ediv x y
 refine ⟨?_, hm.symm⟩
 have e0 : y * (x.tdiv y - 1) = y * x.tdiv y - y := by rw [Int.mul_sub, Int.mul_one]
 have : y * (x.tdiv y - 1) = y * (x / y) := by rw [e0]; omega
 exact Int.eq_of_mul_eq_mul_left (by omega) this
theorem tmod_low (x : Int) : x.tmod 4294967296 % 4294967296 = x % 4294967296 := by
 have := Int.mul_tdiv_add_tmod x 4294967296; omega
theorem wrap64_low2 (x : Int) : (wrap64 (x + 4294967296)).tmod 4294967296 % 4294967296 = low x := by rw [tmod_low]; unfold wrap64 low; omega
theorem wrap64_low3 (x : Int) : (wrap64 (wrap64 x + 4294967296)).tmod 4294967296 % 4294967296 = low x := by rw [tmod_low]; unfold wrap64 low; omega
theorem wrap64_low (x : Int) : wrap64 x % 4294967296 = low x := by unfold wrap64 low; omega
def sl (a : Int) (m : Nat) : Int := a * 2 ^ m % 4294967296
def sr (a : Int) (m : Nat) : Int := sgn a / 2 ^ m % 4294967296
def ro (a : Int) (m : Nat) : Int := a / 2 ^ m + a * 2 ^ (32 - m) % 4294967296
def shiftN (k a : Int) (m : Nat) : Int := if k = 1 then sl a m else if k = 2 then sr a m else if k = 3 then ro a m else a
def shift (k a n : Int) : Int := shiftN k a (n % 32).toNat
def step (k a : Int) : Int := if k = 1 then a * 2 % 4294967296 else if k = 2 then a / 2 + a / 2147483648 * 2147483648 else if k = 3 then a / 2 + a % 2 * 2147483648 else a
theorem step1 (k s : Int) (h : (k == 1) = true) : s * 2 % 4294967296 = step k s := by
 have e : k = 1 := by simpa using h
 simp only [step, if_pos e]
theorem step2 (k s : Int) (h : (k == 2) = true) : s / 2 + s / 2147483648 * 2147483648 = step k s := by
 have e : k = 2 := by simpa using h
 have e' : ¬ k = 1 := by omega
 simp only [step, if_neg e', if_pos e]
theorem step3 (k s : Int) (h : (k == 3) = true) : s / 2 + s % 2 * 2147483648 = step k s := by
 have e : k = 3 := by simpa using h
 have e' : ¬ k = 1 := by omega
 have e'' : ¬ k = 2 := by omega
 simp only [step, if_neg e', if_neg e'', if_pos e]
theorem step4 (k s : Int) (h : (k == 1) = false) (h' : (k == 2) = false) (h'' : (k == 3) = false) : s = step k s := by
 have e : ¬ k = 3 := by simpa using h''
 have e' : ¬ k = 1 := by simpa using h
 have e'' : ¬ k = 2 := by simpa using h'
 simp only [step, if_neg e', if_neg e'', if_neg e]
theorem cases32 (m : Nat) (h : m < 32) : m = 0 ∨ m = 1 ∨ m = 2 ∨ m = 3 ∨ m = 4 ∨ m = 5 ∨ m = 6 ∨ m = 7 ∨ m = 8 ∨ m = 9 ∨ m = 10 ∨ m = 11 ∨ m = 12 ∨ m = 13 ∨ m = 14 ∨ m = 15 ∨ m = 16 ∨ m = 17 ∨ m = 18 ∨ m = 19 ∨ m = 20 ∨ m = 21 ∨ m = 22 ∨ m = 23 ∨ m = 24 ∨ m = 25 ∨ m = 26 ∨ m = 27 ∨ m = 28 ∨ m = 29 ∨ m = 30 ∨ m = 31 := by omega
theorem sl_step (a : Int) (m : Nat) (h : m < 31) : sl a m * 2 % 4294967296 = sl a (m + 1) := by
 unfold sl; rw [Int.pow_succ, ← Int.mul_assoc]; omega
theorem sr_step (a : Int) (m : Nat) (h : m < 31) (h0 : 0 ≤ a) (h1 : a < 4294967296) : sr a m / 2 + sr a m / 2147483648 * 2147483648 = sr a (m + 1) := by
 have s1 := sgn_lo a h0
 have s2 := sgn_hi a h1
 unfold sr
 generalize sgn a = s at *
 rcases cases32 m (by omega) with r | r | r | r | r | r | r | r | r | r | r | r | r | r | r | r | r | r | r | r | r | r | r | r | r | r | r | r | r | r | r | r <;> subst r <;> simp only [Nat.reduceAdd, Int.reducePow] <;> omega
theorem pow_pos2 (m : Nat) : (0 : Int) < 2 ^ m := Int.pow_pos (by decide)
theorem pow_split (m n : Nat) (h : n = m) : (2 : Int) ^ n = 2 ^ m := by rw [h]
theorem ro_alt (a : Int) (m : Nat) (h : m ≤ 32) : ro a m = a / 2 ^ m + a % 2 ^ m * 2 ^ (32 - m) := by
 unfold ro
 have e : (4294967296 : Int) = 2 ^ (32 - m) * 2 ^ m := by
  rw [← Int.pow_add, pow_split 32 (32 - m + m) (by omega)]; rfl
 rw [e, Int.mul_comm a, Int.mul_emod_mul_of_pos _ _ (pow_pos2 _), Int.mul_comm (2 ^ (32 - m))]
theorem div_step (a : Int) (m : Nat) : a / 2 ^ (m + 1) = a / 2 ^ m / 2 := by
 have hp := pow_pos2 m
 rw [Int.ediv_ediv, if_neg (by omega), Int.pow_succ]; omega
theorem mod_step (a : Int) (m : Nat) : a % 2 ^ (m + 1) = a / 2 ^ m % 2 * 2 ^ m + a % 2 ^ m := by
 have h1 := Int.emod_add_mul_ediv a (2 ^ m)
 have h2 := Int.emod_add_mul_ediv a (2 ^ (m + 1))
 rw [div_step a m, Int.pow_succ, Int.mul_assoc] at h2
 rw [Int.pow_succ]
 have h3 : 2 ^ m * (a / 2 ^ m) = 2 ^ m * (2 * (a / 2 ^ m / 2)) + a / 2 ^ m % 2 * 2 ^ m := by
  rw [Int.mul_comm (a / 2 ^ m % 2), ← Int.mul_add]
  congr 1; omega
 omega
theorem ro_step (a : Int) (m : Nat) (h : m < 32) : ro a m / 2 + ro a m % 2 * 2147483648 = ro a (m + 1) := by
 rw [ro_alt a m (by omega), ro_alt a (m + 1) (by omega), div_step, mod_step]
 have e1 : (2 : Int) ^ (32 - m) = 2 ^ (32 - (m + 1)) * 2 := by
  rw [← Int.pow_succ]; exact pow_split _ _ (by omega)
 have e2 : (2147483648 : Int) = 2 ^ m * 2 ^ (32 - (m + 1)) := by
  rw [← Int.pow_add, pow_split 31 (m + (32 - (m + 1))) (by omega)]; rfl
 rw [e1, Int.add_mul, Int.mul_assoc (a / 2 ^ m % 2), ← e2, ← Int.mul_assoc (a % 2 ^ m)]
 omega
theorem ro_zero (a : Int) : ro a 0 = a := by unfold ro; simp only [Int.reducePow, Nat.sub_zero]; omega
theorem sl_zero (a : Int) (h0 : 0 ≤ a) (h1 : a < 4294967296) : sl a 0 = a := by unfold sl; simp only [Int.reducePow]; omega
theorem sr_zero (a : Int) (h0 : 0 ≤ a) (h1 : a < 4294967296) : sr a 0 = a := by
 unfold sr sgn; simp only [Int.reducePow]; split <;> omega
theorem step_lo (k a : Int) (h0 : 0 ≤ a) : 0 ≤ step k a := by
 unfold step; repeat' split
 all_goals omega
theorem step_hi (k a : Int) (h0 : 0 ≤ a) (h1 : a < 4294967296) : step k a < 4294967296 := by
 unfold step; repeat' split
 all_goals omega
theorem shiftN_step (k a : Int) (m : Nat) (h : m < 31) (h0 : 0 ≤ a) (h1 : a < 4294967296) : step k (shiftN k a m) = shiftN k a (m + 1) := by
 unfold step shiftN
 by_cases e1 : k = 1
 · simp only [e1, if_true]; exact sl_step a m h
 · by_cases e2 : k = 2
   · simp only [e2, if_true, if_neg (show ¬ (2 : Int) = 1 by decide)]; exact sr_step a m h h0 h1
   · by_cases e3 : k = 3
     · simp only [e3, if_true, if_neg (show ¬ (3 : Int) = 1 by decide), if_neg (show ¬ (3 : Int) = 2 by decide)]; exact ro_step a m (by omega)
     · simp only [if_neg e1, if_neg e2, if_neg e3]
theorem shiftN_zero (k a : Int) (h0 : 0 ≤ a) (h1 : a < 4294967296) : shiftN k a 0 = a := by
 unfold shiftN
 split
 · exact sl_zero a h0 h1
 · split
   · exact sr_zero a h0 h1
   · split
     · exact ro_zero a
     · rfl
theorem shiftN_in (k a : Int) (m : Nat) (h : m < 32) (h0 : 0 ≤ a) (h1 : a < 4294967296) : 0 ≤ shiftN k a m ∧ shiftN k a m < 4294967296 := by
 induction m with
 | zero => rw [shiftN_zero k a h0 h1]; exact ⟨h0, h1⟩
 | succ m ih =>
   have := ih (by omega)
   rw [← shiftN_step k a m (by omega) h0 h1]
   exact ⟨step_lo k _ this.1, step_hi k _ this.1 this.2⟩
theorem ro_back (a : Int) (x : Nat) (h : x < 32) (hx : 0 < x) (h0 : 0 ≤ a) (h1 : a < 4294967296) : ro (ro a x) (32 - x) = a := by
 rw [ro_alt a x (by omega), ro_alt _ (32 - x) (by omega)]
 have e : 32 - (32 - x) = x := by omega
 rw [e]
 have hp := pow_pos2 x
 have hq := pow_pos2 (32 - x)
 have hlt : a / 2 ^ x < 2 ^ (32 - x) := by
  apply Int.ediv_lt_of_lt_mul hp
  rw [← Int.pow_add, pow_split 32 (32 - x + x) (by omega)]; omega
 have hge : 0 ≤ a / 2 ^ x := Int.ediv_nonneg h0 (by omega)
 have hr := Int.emod_nonneg a (b := 2 ^ x) (by omega)
 rw [Int.add_mul_ediv_right _ _ (by omega), Int.ediv_eq_zero_of_lt hge hlt, Int.mul_comm (a % 2 ^ x), Int.add_mul_emod_self_left, Int.emod_eq_of_lt hge hlt]
 have := Int.emod_add_mul_ediv a (2 ^ x)
 rw [Int.mul_comm (a / 2 ^ x)]; omega
theorem ro_bits (a : Int) (m : Nat) (h : m < 32) (h0 : 0 ≤ a) (h1 : a < 4294967296) (hk : ((32 - (m : Int)).toNat) = 32 - m) :
 bits .or .u32 (a / 2 ^ m) (a * 2 ^ (32 - (m : Int)).toNat % 4294967296) = ro a m := by
 rw [hk]
 have e := ro_alt a m (by omega)
 unfold ro at e ⊢
 have hp := pow_pos2 m
 have hq := pow_pos2 (32 - m)
 have hge : 0 ≤ a / 2 ^ m := Int.ediv_nonneg h0 (by omega)
 have hlt : a / 2 ^ m < 2 ^ (32 - m) := by
  apply Int.ediv_lt_of_lt_mul hp
  rw [← Int.pow_add, pow_split 32 (32 - m + m) (by omega)]; omega
 have hle : (2 : Int) ^ (32 - m) ≤ 4294967296 := by
  have h2 := Nat.pow_le_pow_right (n := 2) (by decide) (show 32 - m ≤ 32 by omega)
  have h3 : ((2 ^ (32 - m) : Nat) : Int) ≤ ((2 ^ 32 : Nat) : Int) := Int.ofNat_le.2 h2
  rw [Int.natCast_pow] at h3
  exact h3
 have e' : a * 2 ^ (32 - m) % 4294967296 = a % 2 ^ m * 2 ^ (32 - m) := by omega
 rw [u32_or _ _ hge (by omega) (by omega) (by omega), Nat.or_comm, nat_join (32 - m)]
 · omega
 · have hr := Int.emod_nonneg a (b := 2 ^ m) (by omega)
   rw [e']
   obtain ⟨r, hr'⟩ := Int.eq_ofNat_of_zero_le hr
   rw [hr', show (2 : Int) ^ (32 - m) = ((2 ^ (32 - m) : Nat) : Int) from by rw [Int.natCast_pow]; rfl, ← Int.natCast_mul, Int.toNat_natCast, Nat.mul_mod_left]
 · have : ((a / 2 ^ m).toNat : Int) < ((2 ^ (32 - m) : Nat) : Int) := by
    rw [Int.natCast_pow, Int.toNat_of_nonneg hge]; exact hlt
   omega
theorem shift_lo (k a n : Int) (h0 : 0 ≤ a) (h1 : a < 4294967296) : 0 ≤ shift k a n := (shiftN_in k a _ (by omega) h0 h1).1
theorem shift_hi (k a n : Int) (h0 : 0 ≤ a) (h1 : a < 4294967296) : shift k a n < 4294967296 := (shiftN_in k a _ (by omega) h0 h1).2
end Go.Proofs.YtpfgmfiegnkocaaGreat.W
namespace Go.Proofs.YtpfgmfiegnkocaaGreat.F
open Go.RowKit
set_option linter.unusedVariables false
set_option linter.unusedSimpArgs false
set_option maxRecDepth 100000
def ofB (f : Nat → Bool) : Nat → Nat
 | 0 => 0
 | k + 1 => ofB f k ||| (if f k then 2 ^ k else 0)
theorem testBit_ofB (f : Nat → Bool) (k i : Nat) : (ofB f k).testBit i = (decide (i < k) && f i) := by
 induction k with
 | zero => simp [ofB]
 | succ k ih =>
   rw [ofB, Nat.testBit_or, ih]
   by_cases h : i = k
   · subst h; cases hf : f i <;> simp [Nat.testBit_two_pow]
   · have e : decide (i < k + 1) = decide (i < k) := by rw [decide_eq_decide]; omega
     rw [e]
     split
     · rw [Nat.testBit_two_pow, decide_eq_false (show ¬ k = i by omega)]; simp
     · simp
theorem ofB_lt (f : Nat → Bool) (k : Nat) : ofB f k < 2 ^ k := by
 apply Nat.lt_pow_two_of_testBit; intro i hi; rw [testBit_ofB, decide_eq_false (by omega)]; rfl
theorem big_bit (x i : Nat) (hx : x < 4294967296) (hi : 32 ≤ i) : x.testBit i = false :=
 Nat.testBit_lt_two_pow (Nat.lt_of_lt_of_le hx (by have := Nat.pow_le_pow_right (n := 2) (by decide) hi; omega))
def getP (x : Nat) (a n i : Int) : Nat :=
 ofB (fun j => decide ((j : Int) < n) && decide (0 ≤ (j : Int) + a) && decide ((j : Int) + a < i) && x.testBit ((j : Int) + a).toNat) 32
def setP (w x : Nat) (a n i : Int) : Nat :=
 ofB (fun j => if a ≤ (j : Int) ∧ (j : Int) - a < n ∧ (j : Int) < i then x.testBit ((j : Int) - a).toNat else w.testBit j) 32
theorem getP_bit (x : Nat) (a n i : Int) (k : Nat) : (getP x a n i).testBit k =
 (decide (k < 32) && (decide ((k : Int) < n) && decide (0 ≤ (k : Int) + a) && decide ((k : Int) + a < i) && x.testBit ((k : Int) + a).toNat)) := testBit_ofB _ _ _
theorem setP_bit (w x : Nat) (a n i : Int) (k : Nat) : (setP w x a n i).testBit k =
 (decide (k < 32) && (if a ≤ (k : Int) ∧ (k : Int) - a < n ∧ (k : Int) < i then x.testBit ((k : Int) - a).toNat else w.testBit k)) := testBit_ofB _ _ _
theorem getP_lt (x : Nat) (a n i : Int) : getP x a n i < 4294967296 := ofB_lt _ 32
theorem setP_lt (w x : Nat) (a n i : Int) : setP w x a n i < 4294967296 := ofB_lt _ 32
theorem bit_one (x i : Nat) (hx : x < 4294967296) : bits .and .u32 ((x : Int) / 2 ^ i) 1 = ((if x.testBit i then 1 else 0 : Nat) : Int) := by
 have e : ((x : Int) / 2 ^ i) = ((x / 2 ^ i : Nat) : Int) := by rw [Int.natCast_ediv, Int.natCast_pow]; rfl
 have hlt : x / 2 ^ i < 4294967296 := Nat.lt_of_le_of_lt (Nat.div_le_self _ _) hx
 have h := u32_and_nat (x / 2 ^ i) 1 hlt (by decide)
 rw [e]
 refine Eq.trans h ?_
 rw [Nat.and_one_is_mod, Nat.testBit_eq_decide_div_mod_eq]
 congr 1
 by_cases hb : x / 2 ^ i % 2 = 1
 · rw [hb]; simp
 · have : x / 2 ^ i % 2 = 0 := by omega
   rw [this]; simp
theorem bit_shl (b : Bool) (m : Nat) : (((if b then 1 else 0 : Nat) : Int) * 2 ^ m % 4294967296) = ((if b then 2 ^ m % 4294967296 else 0 : Nat) : Int) := by
 cases b
 · simp
 · simp only [if_true, Int.natCast_emod, Int.natCast_pow]; simp
theorem pow_bit (m k : Nat) : (2 ^ m % 4294967296 : Nat).testBit k = (decide (k = m) && decide (k < 32)) := by
 have e : (4294967296 : Nat) = 2 ^ 32 := rfl
 rw [e, Nat.testBit_mod_two_pow, Nat.testBit_two_pow, Bool.and_comm]
 congr 1
 rw [decide_eq_decide]; omega
theorem pow_lt (m : Nat) : (2 ^ m % 4294967296 : Nat) < 4294967296 := Nat.mod_lt _ (by decide)
theorem if_lt (b : Bool) (m : Nat) (h : m < 4294967296) : (if b then m else 0) < 4294967296 := by cases b <;> simp <;> omega
def gval (p x i pl : Int) : Int := bits .or .u32 p (bits .and .u32 (x / 2 ^ i.toNat) 1 * 2 ^ min pl.toNat 32 % 4294967296)
def sval (p x i pl : Int) : Int := bits .or .u32 (bits .andNot .u32 p (2 ^ i.toNat % 4294967296)) (bits .and .u32 (x / 2 ^ min pl.toNat 32) 1 * 2 ^ i.toNat % 4294967296)
theorem gval_nat (p x i pl : Nat) (hp : p < 4294967296) (hx : x < 4294967296) :
 gval p x i pl = ((p ||| (if x.testBit i then 2 ^ min pl 32 % 4294967296 else 0) : Nat) : Int) := by
 unfold gval
 rw [Int.toNat_natCast, Int.toNat_natCast, bit_one x i hx, bit_shl]
 exact u32_or_nat _ _ hp (if_lt _ _ (pow_lt _))
theorem sval_nat (p x i pl : Nat) (hp : p < 4294967296) (hx : x < 4294967296) (hi : i < 32) :
 sval p x i pl = (((p &&& (4294967295 - 2 ^ i % 4294967296)) ||| (if x.testBit (min pl 32) then 2 ^ i % 4294967296 else 0) : Nat) : Int) := by
 unfold sval
 rw [Int.toNat_natCast, Int.toNat_natCast, bit_one x _ hx, bit_shl]
 have e : ((2 : Int) ^ i % 4294967296) = ((2 ^ i % 4294967296 : Nat) : Int) := by
  rw [Int.natCast_emod, Int.natCast_pow]; rfl
 rw [e, u32_andNot_nat _ _ hp (pow_lt _)]
 exact u32_or_nat _ _ (Nat.lt_of_le_of_lt Nat.and_le_left hp) (if_lt _ _ (pow_lt _))
theorem not_bit (y k : Nat) (h : y < 4294967296) : (4294967295 - y).testBit k = (decide (k < 32) && !y.testBit k) := by
 have e : 4294967295 - y = 2 ^ 32 - (y + 1) := by omega
 rw [e, Nat.testBit_two_pow_sub_succ h]
theorem get_step (x : Nat) (a n : Int) (i : Nat) (hx : x < 4294967296) (hi : i < 32) (h0 : 0 ≤ (i : Int) - a) (h1 : (i : Int) - a < n) :
 gval (getP x a n i) x i ((i : Int) - a) = (getP x a n ((i : Int) + 1) : Nat) := by
 obtain ⟨pl, hpl⟩ := Int.eq_ofNat_of_zero_le h0
 rw [hpl, gval_nat _ _ _ _ (getP_lt _ _ _ _) hx]
 congr 1
 apply Nat.eq_of_testBit_eq
 intro k
 rw [Nat.testBit_or, getP_bit, getP_bit]
 by_cases hk : k < 32
 · by_cases hkp : k = pl
   · subst hkp
     have e : (k : Int) + a = i := by omega
     rw [e, decide_eq_true hk, decide_eq_true (show (k : Int) < n by omega), decide_eq_true (show (0 : Int) ≤ i by omega), decide_eq_false (show ¬ (i : Int) < i by omega), decide_eq_true (show (i : Int) < i + 1 by omega), Int.toNat_natCast]
     have e2 : min k 32 = k := by omega
     rw [e2]
     split
     · rename_i hb; rw [pow_bit, hb]; simp [hk]
     · rename_i hb; simp only [Bool.not_eq_true] at hb; rw [hb]; simp
   · have e : decide ((k : Int) + a < i + 1) = decide ((k : Int) + a < i) := by rw [decide_eq_decide]; omega
     rw [e]
     have z : (if x.testBit i = true then 2 ^ min pl 32 % 4294967296 else 0).testBit k = false := by
      split
      · rw [pow_bit, decide_eq_false (by omega)]; rfl
      · simp
     rw [z, Bool.or_false]
 · rw [decide_eq_false hk]
   have z : (if x.testBit i = true then 2 ^ min pl 32 % 4294967296 else 0).testBit k = false := by
    split
    · rw [pow_bit, decide_eq_false hk, Bool.and_false]
    · simp
   rw [z]; rfl
theorem set_step (w x : Nat) (a n : Int) (i : Nat) (hx : x < 4294967296) (hi : i < 32) (h0 : 0 ≤ (i : Int) - a) (h1 : (i : Int) - a < n) :
 sval (setP w x a n i) x i ((i : Int) - a) = (setP w x a n ((i : Int) + 1) : Nat) := by
 obtain ⟨pl, hpl⟩ := Int.eq_ofNat_of_zero_le h0
 rw [hpl, sval_nat _ _ _ _ (setP_lt _ _ _ _ _) hx hi]
 congr 1
 have hm : x.testBit (min pl 32) = x.testBit pl := by
  by_cases h : pl ≤ 32
  · rw [Nat.min_eq_left h]
  · rw [big_bit x _ hx (by omega), big_bit x pl hx (by omega)]
 rw [hm]
 apply Nat.eq_of_testBit_eq
 intro k
 rw [Nat.testBit_or, Nat.testBit_and, not_bit _ _ (pow_lt _), pow_bit, setP_bit, setP_bit]
 by_cases hk : k < 32
 · by_cases hki : k = i
   · subst hki
     rw [decide_eq_true hk, if_neg (show ¬ (a ≤ (k : Int) ∧ (k : Int) - a < n ∧ (k : Int) < k) by omega), if_pos (show a ≤ (k : Int) ∧ (k : Int) - a < n ∧ (k : Int) < (k : Int) + 1 by omega), hpl]
     simp only [Int.toNat_natCast, decide_true, Bool.and_true, Bool.not_true, Bool.and_false, Bool.false_or, Bool.true_and]
     split
     · rename_i hb; rw [pow_bit, hb]; simp [hk]
     · rename_i hb; simp only [Bool.not_eq_true] at hb; rw [hb]; simp
   · rw [decide_eq_true hk, decide_eq_false hki]
     have z : (if x.testBit pl = true then 2 ^ i % 4294967296 else 0).testBit k = false := by
      split
      · rw [pow_bit, decide_eq_false hki]; rfl
      · simp
     rw [z]
     have c : (a ≤ (k : Int) ∧ (k : Int) - a < n ∧ (k : Int) < i) ↔ (a ≤ (k : Int) ∧ (k : Int) - a < n ∧ (k : Int) < (i : Int) + 1) := by omega
     simp only [c]; simp
 · rw [decide_eq_false hk]
   have z : (if x.testBit pl = true then 2 ^ i % 4294967296 else 0).testBit k = false := by
    split
    · rw [pow_bit, decide_eq_false hk, Bool.and_false]
    · simp
   rw [z]; rfl
theorem get_start (x : Nat) (a n i : Int) (h : i ≤ 0 ∨ i ≤ a) : getP x a n i = 0 := by
 apply Nat.eq_of_testBit_eq
 intro k
 rw [getP_bit, Nat.zero_testBit]
 by_cases h1 : 0 ≤ (k : Int) + a
 · rw [decide_eq_false (show ¬ (k : Int) + a < i by omega)]; simp
 · rw [decide_eq_false h1]; simp
theorem set_start (w x : Nat) (a n i : Int) (hw : w < 4294967296) (h : i ≤ 0 ∨ i ≤ a) : setP w x a n i = w := by
 apply Nat.eq_of_testBit_eq
 intro k
 rw [setP_bit, if_neg (by omega)]
 by_cases hk : k < 32
 · rw [decide_eq_true hk]; rfl
 · rw [decide_eq_false hk, big_bit w k hw (by omega)]; rfl
theorem get_end (x : Nat) (a n i i' : Int) (hi : i ≤ i') (h : n ≤ i - a ∨ i' ≤ a ∨ n ≤ 0) : getP x a n i' = getP x a n i := by
 apply Nat.eq_of_testBit_eq
 intro k
 rw [getP_bit, getP_bit]
 by_cases h1 : (k : Int) < n
 · rw [show decide ((k : Int) + a < i') = decide ((k : Int) + a < i) from by rw [decide_eq_decide]; omega]
 · rw [decide_eq_false h1]; simp
theorem set_end (w x : Nat) (a n i i' : Int) (hi : i ≤ i') (h : n ≤ i - a ∨ i' ≤ a ∨ n ≤ 0) : setP w x a n i' = setP w x a n i := by
 apply Nat.eq_of_testBit_eq
 intro k
 rw [setP_bit, setP_bit]
 have c : (a ≤ (k : Int) ∧ (k : Int) - a < n ∧ (k : Int) < i') ↔ (a ≤ (k : Int) ∧ (k : Int) - a < n ∧ (k : Int) < i) := by omega
 simp only [c]
theorem get_stepI (x a n i : Int) (hx0 : 0 ≤ x) (hx : x < 4294967296) (hi0 : 0 ≤ i) (hi : i < 32) (h0 : a ≤ i) (h1 : i - a < n) :
 gval (getP x.toNat a n i : Nat) x i (i - a) = (getP x.toNat a n (i + 1) : Nat) := by
 obtain ⟨X, rfl⟩ := Int.eq_ofNat_of_zero_le hx0
 obtain ⟨I, rfl⟩ := Int.eq_ofNat_of_zero_le hi0
 rw [Int.toNat_natCast]
 exact get_step X a n I (by omega) (by omega) (by omega) h1
theorem set_stepI (w x a n i : Int) (hx0 : 0 ≤ x) (hx : x < 4294967296) (hi0 : 0 ≤ i) (hi : i < 32) (h0 : a ≤ i) (h1 : i - a < n) :
 sval (setP w.toNat x.toNat a n i : Nat) x i (i - a) = (setP w.toNat x.toNat a n (i + 1) : Nat) := by
 obtain ⟨X, rfl⟩ := Int.eq_ofNat_of_zero_le hx0
 obtain ⟨I, rfl⟩ := Int.eq_ofNat_of_zero_le hi0
 rw [Int.toNat_natCast]
 exact set_step w.toNat X a n I (by omega) (by omega) (by omega) h1
theorem place_neg (k a : Int) (h : a < 0) (h0 : -9223372036854775808 ≤ a) (hk : 0 ≤ k) (hk1 : k < 32) : IntKind.u64.wrap (k - IntKind.u64.wrap a) = k - a := by
 rw [IntKind.wrap_u64, IntKind.wrap_u64]; omega
def get (x a n : Int) : Int := (getP x.toNat a n 32 : Nat)
def set (w a n x : Int) : Int := (setP w.toNat x.toNat a n 32 : Nat)
theorem set_lo (w a n x : Int) : 0 ≤ set w a n x := by unfold set; omega
theorem set_hi (w a n x : Int) : set w a n x < 4294967296 := by have := setP_lt w.toNat x.toNat a n 32; unfold set; omega
def clamp (n : Int) : Int := if n < 1 then 1 else if 32 < n then 32 else n
theorem clamp_lo (n : Int) : 1 ≤ clamp n := by unfold clamp; split <;> (try split) <;> omega
theorem clamp_hi (n : Int) : clamp n ≤ 32 := by unfold clamp; split <;> (try split) <;> omega
theorem clamp_1 (n : Int) (h : n < 1) : clamp n = 1 := by unfold clamp; rw [if_pos h]
theorem clamp_32 (n : Int) (h : 32 < n) : clamp n = 32 := by unfold clamp; rw [if_neg (by omega), if_pos h]
theorem clamp_in (n : Int) (h : 1 ≤ n) (h' : n ≤ 32) : clamp n = n := by unfold clamp; rw [if_neg (by omega), if_neg (by omega)]
def sgnd (x k : Int) : Int := if x % 2 ^ k.toNat < 2 ^ (k.toNat - 1) then x % 2 ^ k.toNat else x % 2 ^ k.toNat - 2 ^ k.toNat
def fitsK (v k : Int) : Bool := decide (-2 ^ (k.toNat - 1) ≤ v) && decide (v < 2 ^ (k.toNat - 1))
theorem cases32 (k : Int) (h : 1 ≤ k) (h' : k ≤ 32) : k = 1 ∨ k = 2 ∨ k = 3 ∨ k = 4 ∨ k = 5 ∨ k = 6 ∨ k = 7 ∨ k = 8 ∨ k = 9 ∨ k = 10 ∨ k = 11 ∨ k = 12 ∨ k = 13 ∨ k = 14 ∨ k = 15 ∨ k = 16 ∨ k = 17 ∨ k = 18 ∨ k = 19 ∨ k = 20 ∨ k = 21 ∨ k = 22 ∨ k = 23 ∨ k = 24 ∨ k = 25 ∨ k = 26 ∨ k = 27 ∨ k = 28 ∨ k = 29 ∨ k = 30 ∨ k = 31 ∨ k = 32 := by omega
theorem pow_half (k : Int) (h : 1 ≤ k) : (2 : Int) ^ k.toNat = 2 * 2 ^ (k.toNat - 1) := by
 have e : k.toNat = k.toNat - 1 + 1 := by omega
 rw [e, Int.pow_succ, Nat.add_sub_cancel]; omega
theorem half_lo (k : Int) : (1 : Int) ≤ 2 ^ (k.toNat - 1) := by have := Int.pow_pos (n := 2) (m := k.toNat - 1) (by decide); omega
theorem half_hi (k : Int) (h : k ≤ 32) : (2 : Int) ^ (k.toNat - 1) ≤ 2147483648 := by
 have h2 := Nat.pow_le_pow_right (n := 2) (by decide) (show k.toNat - 1 ≤ 31 by omega)
 have h3 : ((2 ^ (k.toNat - 1) : Nat) : Int) ≤ ((2 ^ 31 : Nat) : Int) := Int.ofNat_le.2 h2
 rw [Int.natCast_pow] at h3
 exact h3
theorem sgnd_shift (x k : Int) (hx0 : 0 ≤ x) (hx1 : x < 4294967296) (h : 1 ≤ k) (h' : k ≤ 32) :
 wrap64 (wrap32 (x * 2 ^ (32 - k).toNat % 4294967296) / 2 ^ (32 - k).toNat) = sgnd x k := by
 rcases cases32 k h h' with r | r | r | r | r | r | r | r | r | r | r | r | r | r | r | r | r | r | r | r | r | r | r | r | r | r | r | r | r | r | r | r <;> subst r <;> unfold sgnd wrap64 wrap32 <;> simp only [Int.reduceSub, Int.reduceToNat, Int.reducePow, Nat.reduceSub] <;> split <;> omega
end Go.Proofs.YtpfgmfiegnkocaaGreat.F
namespace Go.Proofs.YtpfgmfiegnkocaaGreat
set_option linter.unusedVariables false
set_option linter.unusedSimpArgs false
set_option maxRecDepth 100000
namespace I
def reg (n : Int) : Bool := decide (0 ≤ n) && decide (n ≤ 15)
def bit (u : Bool) : Int := if u then 1 else 0
def nb (op b : Int) : Int := if op = 0 then 0 else b
def carry (op : Int) : Bool := decide (8 ≤ op) && decide (op ≤ 10)
def isOp (k op : Int) : Bool :=
 if k = 1 ∨ k = 2 then decide (0 ≤ op) && decide (op ≤ 11)
 else if k = 3 ∨ k = 4 then op == 0
 else if k = 5 then decide (0 ≤ op) && decide (op ≤ 3)
 else if k = 6 ∨ k = 7 then decide (0 ≤ op) && decide (op ≤ 15)
 else false
def isNum (k op i : Int) (u : Bool) : Bool :=
 if k = 2 then F.fitsK i 17 && !(op == 0 && u && decide (i < 0))
 else if k = 5 then F.fitsK i 20
 else if k = 7 then F.fitsK i 24
 else i == 0
structure Ins where
 k : Int
 op : Int
 a : Int
 b : Int
 c : Int
 i : Int
 u : Bool
deriving DecidableEq
def named (x : Ins) : Ins :=
 if x.k = 1 then ⟨x.k, x.op, x.a, nb x.op x.b, x.c, 0, x.u && carry x.op⟩
 else if x.k = 2 then ⟨x.k, x.op, x.a, nb x.op x.b, 0, x.i, x.u && (x.op == 0 || carry x.op)⟩
 else if x.k = 3 ∨ x.k = 4 then ⟨x.k, 0, x.a, 0, 0, 0, false⟩
 else if x.k = 5 then ⟨x.k, x.op, x.a, x.b, 0, x.i, false⟩
 else if x.k = 6 then ⟨x.k, x.op, 0, 0, x.c, 0, x.u⟩
 else if x.k = 7 then ⟨x.k, x.op, 0, 0, 0, x.i, x.u⟩
 else ⟨0, 0, 0, 0, 0, 0, false⟩
def May (x : Ins) : Prop :=
 (0 ≤ x.a ∧ x.a ≤ 15 ∧ 0 ≤ x.b ∧ x.b ≤ 15 ∧ 0 ≤ x.c ∧ x.c ≤ 15) ∧
 ((x.k = 1 ∧ 0 ≤ x.op ∧ x.op ≤ 11 ∧ (x.op = 0 → x.b = 0) ∧ (x.u = true → 8 ≤ x.op ∧ x.op ≤ 10) ∧ x.i = 0) ∨
  (x.k = 2 ∧ 0 ≤ x.op ∧ x.op ≤ 11 ∧ (x.op = 0 → x.b = 0) ∧ (x.u = true → x.op = 0 ∨ 8 ≤ x.op ∧ x.op ≤ 10) ∧ x.c = 0 ∧ -65536 ≤ x.i ∧ x.i ≤ 65535 ∧ (x.op = 0 → x.u = true → 0 ≤ x.i)) ∨
  ((x.k = 3 ∨ x.k = 4) ∧ x.op = 0 ∧ x.b = 0 ∧ x.c = 0 ∧ x.i = 0 ∧ x.u = false) ∨
  (x.k = 5 ∧ 0 ≤ x.op ∧ x.op ≤ 3 ∧ x.c = 0 ∧ -524288 ≤ x.i ∧ x.i ≤ 524287 ∧ x.u = false) ∨
  (x.k = 6 ∧ 0 ≤ x.op ∧ x.op ≤ 15 ∧ x.a = 0 ∧ x.b = 0 ∧ x.i = 0) ∨
  (x.k = 7 ∧ 0 ≤ x.op ∧ x.op ≤ 15 ∧ x.a = 0 ∧ x.b = 0 ∧ x.c = 0 ∧ -8388608 ≤ x.i ∧ x.i ≤ 8388607))
noncomputable instance (x : Ins) : Decidable (May x) := Classical.propDecidable _
noncomputable def may (x : Ins) : Bool := decide (May x)
theorem fits17 (i : Int) : F.fitsK i 17 = (decide (-65536 ≤ i) && decide (i < 65536)) := by unfold F.fitsK; simp
theorem fits20 (i : Int) : F.fitsK i 20 = (decide (-524288 ≤ i) && decide (i < 524288)) := by unfold F.fitsK; simp
theorem fits24 (i : Int) : F.fitsK i 24 = (decide (-8388608 ≤ i) && decide (i < 8388608)) := by unfold F.fitsK; simp
theorem may_named (x : Ins) : (decide (x = named x) && isOp x.k x.op && reg x.a && reg x.b && reg x.c && isNum x.k x.op x.i x.u) = may x := by
 rw [Bool.eq_iff_iff]
 obtain ⟨k, op, a, b, c, i, u⟩ := x
 simp only [may, decide_eq_true_eq, Bool.and_eq_true, reg, May]
 by_cases h1 : k = 1
 · subst h1; cases u <;> simp [named, isOp, isNum, nb, carry] <;> omega
 by_cases h2 : k = 2
 · subst h2; cases u <;> simp [named, isOp, isNum, nb, carry, fits17] <;> omega
 by_cases h3 : k = 3
 · subst h3; cases u <;> simp [named, isOp, isNum, nb, carry] <;> omega
 by_cases h4 : k = 4
 · subst h4; cases u <;> simp [named, isOp, isNum, nb, carry] <;> omega
 by_cases h5 : k = 5
 · subst h5; cases u <;> simp [named, isOp, isNum, nb, carry, fits20] <;> omega
 by_cases h6 : k = 6
 · subst h6; cases u <;> simp [named, isOp, isNum, nb, carry] <;> omega
 by_cases h7 : k = 7
 · subst h7; cases u <;> simp [named, isOp, isNum, nb, carry, fits24] <;> omega
 · simp [isOp, h1, h2, h3, h4, h5, h6, h7]
def word (x : Ins) : Int :=
 if x.k = 1 then bit x.u * 536870912 + x.a * 16777216 + x.b * 1048576 + x.op * 65536 + x.c
 else if x.k = 2 then 1073741824 + bit x.u * 536870912 + bit (decide (x.i < 0)) * 268435456 + x.a * 16777216 + x.b * 1048576 + x.op * 65536 + x.i % 65536
 else if x.k = 3 then 536870912 + x.a * 16777216
 else if x.k = 4 then 805306368 + x.a * 16777216
 else if x.k = 5 then 2147483648 + x.op * 268435456 + x.a * 16777216 + x.b * 1048576 + x.i % 1048576
 else if x.k = 6 then 3221225472 + bit x.u * 268435456 + x.op * 16777216 + x.c
 else 3758096384 + bit x.u * 268435456 + x.op * 16777216 + x.i % 16777216
def sx (n x : Int) : Int := if x < n then x else x - 2 * n
def guess (w : Int) : Ins :=
 if w / 1073741824 = 0 then
  if w / 536870912 % 2 = 1 ∧ w / 65536 % 16 = 0 then
   if w / 268435456 % 2 = 1 then ⟨4, 0, w / 16777216 % 16, 0, 0, 0, false⟩ else ⟨3, 0, w / 16777216 % 16, 0, 0, 0, false⟩
  else ⟨1, w / 65536 % 16, w / 16777216 % 16, w / 1048576 % 16, w % 16, 0, decide (w / 536870912 % 2 = 1)⟩
 else if w / 1073741824 = 1 then ⟨2, w / 65536 % 16, w / 16777216 % 16, w / 1048576 % 16, 0, if w / 268435456 % 2 = 1 then w % 65536 - 65536 else w % 65536, decide (w / 536870912 % 2 = 1)⟩
 else if w / 1073741824 = 2 then ⟨5, w / 268435456 % 4, w / 16777216 % 16, w / 1048576 % 16, 0, sx 524288 (w % 1048576), false⟩
 else if w / 536870912 % 2 = 1 then ⟨7, w / 16777216 % 16, 0, 0, 0, sx 8388608 (w % 16777216), decide (w / 268435456 % 2 = 1)⟩
 else ⟨6, w / 16777216 % 16, 0, 0, w % 16, 0, decide (w / 268435456 % 2 = 1)⟩
noncomputable def enc (x : Ins) : Int := if may x then word x else 0
noncomputable def err (x : Ins) : Int := if may x then 0 else 1
noncomputable def is (w : Int) : Bool := may (guess w) && word (guess w) == w
noncomputable def dec (w : Int) : Ins := if is w then guess w else ⟨0, 0, 0, 0, 0, 0, false⟩
theorem ins_ext {x y : Ins} (h1 : x.k = y.k) (h2 : x.op = y.op) (h3 : x.a = y.a) (h4 : x.b = y.b) (h5 : x.c = y.c) (h6 : x.i = y.i) (h7 : x.u = y.u) : x = y := by
 cases x; cases y; simp_all
theorem bit_lo (u : Bool) : 0 ≤ bit u := by cases u <;> decide
theorem bit_hi (u : Bool) : bit u ≤ 1 := by cases u <;> decide
theorem bit_t : bit true = 1 := rfl
theorem bit_f : bit false = 0 := rfl
end I
namespace A
structure Regs where
 r : Nat → Int
 h : Int
 n : Bool
 z : Bool
 c : Bool
 v : Bool
def cells (s : Regs) : Array Value := #[.int .u32 (s.r 0), .int .u32 (s.r 1), .int .u32 (s.r 2), .int .u32 (s.r 3), .int .u32 (s.r 4), .int .u32 (s.r 5), .int .u32 (s.r 6), .int .u32 (s.r 7), .int .u32 (s.r 8), .int .u32 (s.r 9), .int .u32 (s.r 10), .int .u32 (s.r 11), .int .u32 (s.r 12), .int .u32 (s.r 13), .int .u32 (s.r 14), .int .u32 (s.r 15), .int .u32 s.h, .bool s.n, .bool s.z, .bool s.c, .bool s.v]
def Ok (s : Regs) : Prop := (∀ j, j < 16 → 0 ≤ s.r j ∧ s.r j < 4294967296) ∧ 0 ≤ s.h ∧ s.h < 4294967296
def set (s : Regs) (j : Nat) (x : Int) : Regs := { s with r := fun k => if k = j then x else s.r k }
def setH (s : Regs) (x : Int) : Regs := { s with h := x }
def setN (s : Regs) (x : Bool) : Regs := { s with n := x }
def setZ (s : Regs) (x : Bool) : Regs := { s with z := x }
def setC (s : Regs) (x : Bool) : Regs := { s with c := x }
def setV (s : Regs) (x : Bool) : Regs := { s with v := x }
theorem lt16 {P : Nat → Prop} (h : P 0 ∧ P 1 ∧ P 2 ∧ P 3 ∧ P 4 ∧ P 5 ∧ P 6 ∧ P 7 ∧ P 8 ∧ P 9 ∧ P 10 ∧ P 11 ∧ P 12 ∧ P 13 ∧ P 14 ∧ P 15) (j : Nat) (hj : j < 16) : P j := by
 obtain ⟨h0, h1, h2, h3, h4, h5, h6, h7, h8, h9, h10, h11, h12, h13, h14, h15⟩ := h
 have : j = 0 ∨ j = 1 ∨ j = 2 ∨ j = 3 ∨ j = 4 ∨ j = 5 ∨ j = 6 ∨ j = 7 ∨ j = 8 ∨ j = 9 ∨ j = 10 ∨ j = 11 ∨ j = 12 ∨ j = 13 ∨ j = 14 ∨ j = 15 := by omega
 rcases this with rfl | rfl | rfl | rfl | rfl | rfl | rfl | rfl | rfl | rfl | rfl | rfl | rfl | rfl | rfl | rfl <;> assumption
@[simp] theorem size_cells (s : Regs) : (cells s).size = 21 := rfl
theorem cell_r (s : Regs) (j : Nat) (hj : j < 16) : (cells s)[j]? = some (.int .u32 (s.r j)) :=
 lt16 (P := fun j => (cells s)[j]? = some (.int .u32 (s.r j))) ⟨rfl, rfl, rfl, rfl, rfl, rfl, rfl, rfl, rfl, rfl, rfl, rfl, rfl, rfl, rfl, rfl⟩ j hj
@[simp] theorem cell_h (s : Regs) : (cells s)[16]? = some (.int .u32 s.h) := rfl
@[simp] theorem cell_n (s : Regs) : (cells s)[17]? = some (.bool s.n) := rfl
@[simp] theorem cell_z (s : Regs) : (cells s)[18]? = some (.bool s.z) := rfl
@[simp] theorem cell_c (s : Regs) : (cells s)[19]? = some (.bool s.c) := rfl
@[simp] theorem cell_v (s : Regs) : (cells s)[20]? = some (.bool s.v) := rfl
theorem set_r (s : Regs) (j : Nat) (hj : j < 16) (x : Int) : (cells s).setIfInBounds j (.int .u32 x) = cells (set s j x) :=
 lt16 (P := fun j => (cells s).setIfInBounds j (.int .u32 x) = cells (set s j x)) ⟨rfl, rfl, rfl, rfl, rfl, rfl, rfl, rfl, rfl, rfl, rfl, rfl, rfl, rfl, rfl, rfl⟩ j hj
@[simp] theorem set_h (s : Regs) (x : Int) : (cells s).setIfInBounds 16 (.int .u32 x) = cells (setH s x) := rfl
@[simp] theorem set_n (s : Regs) (x : Bool) : (cells s).setIfInBounds 17 (.bool x) = cells (setN s x) := rfl
@[simp] theorem set_z (s : Regs) (x : Bool) : (cells s).setIfInBounds 18 (.bool x) = cells (setZ s x) := rfl
@[simp] theorem set_c (s : Regs) (x : Bool) : (cells s).setIfInBounds 19 (.bool x) = cells (setC s x) := rfl
@[simp] theorem set_v (s : Regs) (x : Bool) : (cells s).setIfInBounds 20 (.bool x) = cells (setV s x) := rfl
@[simp] theorem one_cells (s : Regs) : (cells s).all (·.oneCell') = true := by simp [cells, Value.oneCell']
def none' : Regs := ⟨fun _ => 0, 0, false, false, false, false⟩
def opnd (s : Regs) (b n : Int) (u : Bool) : Array Value := #[.int .u32 (s.r 0), .int .u32 (s.r 1), .int .u32 (s.r 2), .int .u32 (s.r 3), .int .u32 (s.r 4), .int .u32 (s.r 5), .int .u32 (s.r 6), .int .u32 (s.r 7), .int .u32 (s.r 8), .int .u32 (s.r 9), .int .u32 (s.r 10), .int .u32 (s.r 11), .int .u32 (s.r 12), .int .u32 (s.r 13), .int .u32 (s.r 14), .int .u32 (s.r 15), .int .u32 s.h, .bool s.n, .bool s.z, .bool s.c, .bool s.v, .int .u32 b, .int .u32 n, .bool u]
@[simp] theorem size_opnd (s : Regs) (b n : Int) (u : Bool) : (opnd s b n u).size = 24 := rfl
@[simp] theorem opnd_h (s : Regs) (b n : Int) (u : Bool) : (opnd s b n u)[16]? = some (.int .u32 s.h) := rfl
@[simp] theorem opnd_n (s : Regs) (b n : Int) (u : Bool) : (opnd s b n u)[17]? = some (.bool s.n) := rfl
@[simp] theorem opnd_z (s : Regs) (b n : Int) (u : Bool) : (opnd s b n u)[18]? = some (.bool s.z) := rfl
@[simp] theorem opnd_c (s : Regs) (b n : Int) (u : Bool) : (opnd s b n u)[19]? = some (.bool s.c) := rfl
@[simp] theorem opnd_v (s : Regs) (b n : Int) (u : Bool) : (opnd s b n u)[20]? = some (.bool s.v) := rfl
@[simp] theorem opnd_b (s : Regs) (b n : Int) (u : Bool) : (opnd s b n u)[21]? = some (.int .u32 b) := rfl
@[simp] theorem opnd_nn (s : Regs) (b n : Int) (u : Bool) : (opnd s b n u)[22]? = some (.int .u32 n) := rfl
@[simp] theorem opnd_u (s : Regs) (b n : Int) (u : Bool) : (opnd s b n u)[23]? = some (.bool u) := rfl
@[simp] theorem opnd_set_h (s : Regs) (b n : Int) (u : Bool) (x : Int) : (opnd s b n u).setIfInBounds 16 (.int .u32 x) = opnd (setH s x) b n u := rfl
@[simp] theorem opnd_set_c (s : Regs) (b n : Int) (u : Bool) (x : Bool) : (opnd s b n u).setIfInBounds 19 (.bool x) = opnd (setC s x) b n u := rfl
@[simp] theorem opnd_set_v (s : Regs) (b n : Int) (u : Bool) (x : Bool) : (opnd s b n u).setIfInBounds 20 (.bool x) = opnd (setV s x) b n u := rfl
theorem opnd_regs (s : Regs) (b n : Int) (u : Bool) : ((opnd s b n u).extract 0 (0 + (cells s).size)) = cells s := by simp [opnd, cells]
@[simp] theorem one_opnd (s : Regs) (b n : Int) (u : Bool) : (opnd s b n u).all (·.oneCell') = true := by simp [opnd, Value.oneCell']
def outc (x : Int) (s : Regs) (t : Int) : Array Value := #[.int .u32 x, .int .u32 (s.r 0), .int .u32 (s.r 1), .int .u32 (s.r 2), .int .u32 (s.r 3), .int .u32 (s.r 4), .int .u32 (s.r 5), .int .u32 (s.r 6), .int .u32 (s.r 7), .int .u32 (s.r 8), .int .u32 (s.r 9), .int .u32 (s.r 10), .int .u32 (s.r 11), .int .u32 (s.r 12), .int .u32 (s.r 13), .int .u32 (s.r 14), .int .u32 (s.r 15), .int .u32 s.h, .bool s.n, .bool s.z, .bool s.c, .bool s.v, .int .i64 t]
@[simp] theorem size_outc (x : Int) (s : Regs) (t : Int) : (outc x s t).size = 23 := rfl
@[simp] theorem outc_x (x : Int) (s : Regs) (t : Int) : (outc x s t)[0]? = some (.int .u32 x) := rfl
@[simp] theorem outc_t (x : Int) (s : Regs) (t : Int) : (outc x s t)[22]? = some (.int .i64 t) := rfl
theorem outc_regs (x : Int) (s : Regs) (t : Int) : ((outc x s t).extract 1 (1 + (cells s).size)) = cells s := by simp [outc, cells]
@[simp] theorem one_outc (x : Int) (s : Regs) (t : Int) : (outc x s t).all (·.oneCell') = true := by simp [outc, Value.oneCell']
def show' (s : Regs) (x : Int) : Regs := setZ (setN s (decide (2147483648 ≤ x))) (x == 0)
end A
end Go.Proofs.YtpfgmfiegnkocaaGreat
namespace Go.Proofs.YtpfgmfiegnkocaaGreat
open Go.RowKit
set_option linter.unusedVariables false
set_option linter.unusedSimpArgs false
set_option maxRecDepth 100000
structure Turn (F : Nat → Prop) (w w' : World) : Prop where
 os : w'.os = w.os
 tape : w'.tape = w.tape
 output : w'.output = w.output
 size : w.heap.size ≤ w'.heap.size
 block : ∀ k, k < w.heap.size → ¬ F k → w'.heap[k]? = w.heap[k]?
theorem Turn.refl (F : Nat → Prop) (w : World) : Turn F w w := ⟨rfl, rfl, rfl, Nat.le_refl _, fun _ _ _ => rfl⟩
theorem Turn.trans {F : Nat → Prop} {a b c : World} (h : Turn F a b) (k : Turn F b c) : Turn F a c :=
 ⟨k.os.trans h.os, k.tape.trans h.tape, k.output.trans h.output, Nat.le_trans h.size k.size, fun i hi hF => (k.block i (Nat.lt_of_lt_of_le hi h.size) hF).trans (h.block i hi hF)⟩
theorem Turn.then {F G : Nat → Prop} {a b c : World} (h : Turn F a b) (k : Turn G b c) (hG : ∀ i, G i → F i ∨ a.heap.size ≤ i) : Turn F a c :=
 ⟨k.os.trans h.os, k.tape.trans h.tape, k.output.trans h.output, Nat.le_trans h.size k.size, fun i hi hF => (k.block i (Nat.lt_of_lt_of_le hi h.size) fun hg => by
  rcases hG i hg with h1 | h1
  · exact hF h1
  · omega).trans (h.block i hi hF)⟩
theorem Kept.turn {w w' : World} (h : Kept w w') (F : Nat → Prop) : Turn F w w' := ⟨h.below.os, h.below.tape, h.below.output, h.below.size, fun k hk _ => h.below.block k hk⟩
theorem But.turn {B : Nat} {w w' : World} (h : But B w w') {F : Nat → Prop} (hB : F B) : Turn F w w' :=
 ⟨h.os, h.tape, h.output, h.size, fun k hk hF => h.block k hk fun e => hF (e ▸ hB)⟩
theorem grown_turn {w w' : World} {row : Option Nat} (h : w.grownBy w' row) {F : Nat → Prop} (hF : ∀ k, row = some k → F k) : Turn F w w' :=
 ⟨h.os, h.tape, h.output, h.size, fun k hk hn => h.block k hk fun e => hn (hF k e.symm)⟩
theorem Turn.below {F : Nat → Prop} {w w' : World} (h : Turn F w w') (N : Nat) (hN : N ≤ w.heap.size) (hF : ∀ k, F k → N ≤ k) : Below N w w' :=
 ⟨h.os, h.tape, h.output, h.size, fun k hk => h.block k (by omega) fun hk' => by have := hF k hk'; omega⟩
theorem Turn.kept0 {w w' : World} (h : Turn (fun _ => False) w w') : Below w.heap.size w w' := h.below _ (Nat.le_refl _) fun _ h => h.elim
theorem Turn.drew {F : Nat → Prop} {a b : World} (h : Turn F a b) : Turn F a b.drew := ⟨h.os, h.tape, h.output, h.size, h.block⟩
theorem MemT.tail {t : TypeId} {tl : List Value} {B : Nat} {ws : List Int} {w : World} (h : MemT t tl B ws w) (j : Nat) (v : Value) (hv : tl[j]? = some v) : w.cell? ⟨B, 4097 + j, none⟩ = some v := by
 obtain ⟨cs, h1, _, _, _, h5⟩ := h.has; exact h1.cell _ _ ((h5 j).trans hv)
theorem MemT.set1 {t : TypeId} {tl : List Value} {B : Nat} {ws : List Int} {w : World} (h : MemT t tl B ws w) (j : Nat) (v : Value) : MemT t (tl.set j v) B ws (w.setCell ⟨B, 4097 + j, none⟩ v) := by
 obtain ⟨cs, hh, h2, h3, h4, h5⟩ := h.has
 have hl := h.len
 refine ⟨hl, h.rng, cs.setIfInBounds (4097 + j) v, hh.set _ _, by simpa using h2, ?_, fun k y hk => ?_, fun k => ?_⟩
 · rw [Array.getElem?_setIfInBounds_ne (by omega), h3]
 · have hk' : k < ws.length := by
    rcases Nat.lt_or_ge k ws.length with h1 | h1
    · exact h1
    · rw [List.getElem?_eq_none h1] at hk; cases hk
   rw [Array.getElem?_setIfInBounds_ne (by omega)]
   exact h4 k y hk
 · rw [List.getElem?_set]
   by_cases e : j = k
   · subst e
     rw [if_pos rfl]
     by_cases c : j < tl.length
     · rw [if_pos c, Array.getElem?_setIfInBounds_self_of_lt (by omega)]
     · rw [if_neg c, Array.getElem?_eq_none (by simp; omega)]
   · rw [if_neg e, Array.getElem?_setIfInBounds_ne (by omega)]
     exact h5 k
def X.put (tl : List Value) (j : Nat) : List Value → List Value
 | [] => tl
 | v :: r => X.put (tl.set j v) (j + 1) r
theorem MemT.setN {t : TypeId} {B : Nat} {ws : List Int} : ∀ (vs : List Value) (j : Nat) (tl : List Value) (w : World), MemT t tl B ws w → MemT t (X.put tl j vs) B ws (w.setCells B (4097 + j) vs)
 | [], _, _, _, h => h
 | v :: r, j, tl, w, h => by
   have := MemT.setN r (j + 1) (tl.set j v) (w.setCell ⟨B, 4097 + j, none⟩ v) (h.set1 j v)
   exact this
theorem but_setCells {B : Nat} : ∀ (vs : List Value) (o : Nat) (a w : World), But B a w → But B a (w.setCells B o vs)
 | [], _, _, _, h => h
 | v :: r, o, a, w, h => but_setCells r (o + 1) a _ (h.setCell o v)
theorem MemT.there {t : TypeId} {tl : List Value} {B : Nat} {ws : List Int} {w : World} (h : MemT t tl B ws w) (o n : Nat) (hn : o + n ≤ 4097 + tl.length) : w.there B o n := by
 obtain ⟨cs, hh, h2, _⟩ := h.has
 intro j hj
 have hj' : o + j < cs.size := by omega
 refine ⟨?_, hh.free _⟩
 rw [hh.cell (o + j) cs[o + j] (Array.getElem?_eq_getElem hj')]
 rfl
theorem MemT.at {t : TypeId} {tl : List Value} {B : Nat} {ws : List Int} {w : World} (h : MemT t tl B ws w) (j : Nat) (vs : List Value) (hv : ∀ k v, vs[k]? = some v → tl[j + k]? = some v) : w.rangeAt B (4097 + j) vs := by
 intro k v hk
 have := h.tail (j + k) v (hv k v hk)
 rwa [← Nat.add_assoc] at this
namespace X
structure St where
 ws : List Int
 s : A.Regs
 pc : Int
 st : Int
 ins : List Int
 outs : List Int
def tl (si so : Value) (s : A.Regs) (pc st : Int) : List Value := [si, so, .int .u32 (s.r 0), .int .u32 (s.r 1), .int .u32 (s.r 2), .int .u32 (s.r 3), .int .u32 (s.r 4), .int .u32 (s.r 5), .int .u32 (s.r 6), .int .u32 (s.r 7), .int .u32 (s.r 8), .int .u32 (s.r 9), .int .u32 (s.r 10), .int .u32 (s.r 11), .int .u32 (s.r 12), .int .u32 (s.r 13), .int .u32 (s.r 14), .int .u32 (s.r 15), .int .u32 s.h, .bool s.n, .bool s.z, .bool s.c, .bool s.v, .int .u32 pc, .int .i64 st]
theorem tl_regs (si so : Value) (s s' : A.Regs) (pc st : Int) : X.put (tl si so s pc st) 2 (A.cells s').toList = tl si so s' pc st := by kernel_rfl
theorem tl_pc (si so : Value) (s : A.Regs) (pc st v : Int) : (tl si so s pc st).set 23 (.int .u32 v) = tl si so s v st := rfl
theorem tl_st (si so : Value) (s : A.Regs) (pc st v : Int) : (tl si so s pc st).set 24 (.int .i64 v) = tl si so s pc v := rfl
theorem tl_in (si so v : Value) (s : A.Regs) (pc st : Int) : (tl si so s pc st).set 0 v = tl v so s pc st := rfl
theorem tl_out (si so v : Value) (s : A.Regs) (pc st : Int) : (tl si so s pc st).set 1 v = tl si v s pc st := rfl
theorem tl_len (si so : Value) (s : A.Regs) (pc st : Int) : (tl si so s pc st).length = 25 := rfl
theorem tl_at (si so : Value) (s : A.Regs) (pc st : Int) (k : Nat) (v : Value) (h : (A.cells s).toList[k]? = some v) : (tl si so s pc st)[2 + k]? = some v := by
 have hk : k < 21 := by
  rcases Nat.lt_or_ge k 21 with h1 | h1
  · exact h1
  · rw [List.getElem?_eq_none (by simp; omega)] at h; cases h
 have e : (tl si so s pc st) = [si, so] ++ ((A.cells s).toList ++ [.int .u32 pc, .int .i64 st]) := rfl
 rw [e, List.getElem?_append_right (by simp), show 2 + k - ([si, so] : List Value).length = k by simp, List.getElem?_append_left (by simp; omega)]
 exact h
def Outs (A : Option Addr) (n c : Nat) (xs : List Int) (w : World) : Prop := w.ownsRow 0 43 1 (.slice A n c) n (xs.map (Value.int .u32))
end X
structure MacAt (F : Nat → Prop) (B : Nat) (x : X.St) (ai : Option Addr) (ni ci : Nat) (ao : Option Addr) (no co : Nat) (w : World) : Prop where
 sub : ∀ k, F k → k < w.heap.size
 inB : F B
 mem : MemT 72 (X.tl (.slice ai ni ci) (.slice ao no co) x.s x.pc x.st) B x.ws w
 ins : Ws w ai ni ci x.ins
 insF : ∀ ad, ai = some ad → 0 < ni → F ad.block ∧ ad.block ≠ B ∧ ∀ bd, ao = some bd → ad.block ≠ bd.block
 out : X.Outs ao no co x.outs w
 outF : ∀ ad, ao = some ad → F ad.block ∧ ad.block ≠ B
 ok : A.Ok x.s
 pc0 : 0 ≤ x.pc
 pc1 : x.pc < 4294967296
 rng : ∀ y ∈ x.outs, 0 ≤ y ∧ y < 4294967296
def Mac (F : Nat → Prop) (B : Nat) (x : X.St) (w : World) : Prop := ∃ ai ni ci ao no co, MacAt F B x ai ni ci ao no co w
theorem X.Outs.len {A : Option Addr} {n c : Nat} {xs : List Int} {w : World} (h : X.Outs A n c xs w) : xs.length = n := by have := h.1; simpa using this
theorem X.Outs.to {A : Option Addr} {n c : Nat} {xs : List Int} {w w' : World} (h : X.Outs A n c xs w) (hb : ∀ ad, A = some ad → w'.heap[ad.block]? = w.heap[ad.block]?) : X.Outs A n c xs w' := by
 obtain ⟨h1, h2⟩ := h
 refine ⟨h1, ?_⟩
 rcases h2 with h2 | ⟨g, cap, cur, hv, hr⟩
 · exact Or.inl h2
 · obtain ⟨q1, q2, q3⟩ := hr
   cases hv
   exact Or.inr ⟨g, _, cur, rfl, q1, (hb _ rfl).trans q2, q3⟩
theorem X.Outs.ws {A : Option Addr} {n c : Nat} {xs : List Int} {w : World} (h : X.Outs A n c xs w) (hr : ∀ x ∈ xs, 0 ≤ x ∧ x < 4294967296) : Ws w A n c xs := by
 have hl := h.len
 rcases h.2 with ⟨h2, h3⟩ | ⟨g, cap, cur, hv, _⟩
 · cases h2
   have : xs = [] := List.eq_nil_of_length_eq_zero hl
   subst this
   exact Ws.empty w
 · cases hv
   exact Own.ws (base := 0) h hr
theorem MemT.to {t : TypeId} {tl : List Value} {B : Nat} {ws : List Int} {w w' : World} (h : MemT t tl B ws w) (hb : w'.heap[B]? = w.heap[B]?) : MemT t tl B ws w' := by
 obtain ⟨cs, h1, h2⟩ := h.has; exact ⟨h.len, h.rng, cs, hb.trans h1, h2⟩
theorem MacAt.turn {F G : Nat → Prop} {B : Nat} {x : X.St} {ai : Option Addr} {ni ci : Nat} {ao : Option Addr} {no co : Nat} {w w' : World} (h : MacAt F B x ai ni ci ao no co w) (hT : Turn G w w') (hd : ∀ k, F k → ¬ G k) : MacAt F B x ai ni ci ao no co w' :=
 ⟨fun k hk => Nat.lt_of_lt_of_le (h.sub k hk) hT.size, h.inB, h.mem.to (hT.block B (h.sub B h.inB) (hd B h.inB)), h.ins.to fun ad e hn => hT.block _ (h.sub _ (h.insF ad e hn).1) (hd _ (h.insF ad e hn).1), h.insF,
  h.out.to fun ad e => hT.block _ (h.sub _ (h.outF ad e).1) (hd _ (h.outF ad e).1), h.outF, h.ok, h.pc0, h.pc1, h.rng⟩
theorem Mac.turn {F G : Nat → Prop} {B : Nat} {x : X.St} {w w' : World} (h : Mac F B x w) (hT : Turn G w w') (hd : ∀ k, F k → ¬ G k) : Mac F B x w' := by
 obtain ⟨ai, ni, ci, ao, no, co, h⟩ := h
 exact ⟨ai, ni, ci, ao, no, co, h.turn hT hd⟩
theorem Mac.kept {F : Nat → Prop} {B : Nat} {x : X.St} {w w' : World} (h : Mac F B x w) (hT : Kept w w') : Mac F B x w' := h.turn (hT.turn fun _ => False) fun _ _ h => h
theorem Mac.sub {F : Nat → Prop} {B : Nat} {x : X.St} {w : World} (h : Mac F B x w) : ∀ k, F k → k < w.heap.size := by obtain ⟨_, _, _, _, _, _, h⟩ := h; exact h.sub
theorem Mac.inB {F : Nat → Prop} {B : Nat} {x : X.St} {w : World} (h : Mac F B x w) : F B := by obtain ⟨_, _, _, _, _, _, h⟩ := h; exact h.inB
theorem MacAt.own {F : Nat → Prop} {B : Nat} {x : X.St} {ai : Option Addr} {ni ci : Nat} {ao : Option Addr} {no co : Nat} {w w' : World} (h : MacAt F B x ai ni ci ao no co w) (hB : But B w w') (ws : List Int) (s : A.Regs) (pc st : Int)
 (hm : MemT 72 (X.tl (.slice ai ni ci) (.slice ao no co) s pc st) B ws w') (ok : A.Ok s) (pc0 : 0 ≤ pc) (pc1 : pc < 4294967296) : MacAt F B ⟨ws, s, pc, st, x.ins, x.outs⟩ ai ni ci ao no co w' :=
 ⟨fun k hk => Nat.lt_of_lt_of_le (h.sub k hk) hB.size, h.inB, hm, h.ins.but hB fun ad e hn => (h.insF ad e hn).2.1, h.insF,
  h.out.to fun ad e => hB.block _ (h.sub _ (h.outF ad e).1) (h.outF ad e).2, h.outF, ok, pc0, pc1, h.rng⟩
theorem append_out {w : World} {ops : Array Oper} {rest : List Oper} {o : Oper} {a : Act} {Q : Exit → Act → World → Prop} (hgd : o.guard = none) (s x : Operand)
 (ho : o.op = .call { callee := .builtin .append, args := #[s, x], argTypes := #[22, 22] }) (A : Option Addr) (n cap : Nat) (xs : List Int) (hs : a.eval s = .slice A n cap) (hown : X.Outs A n cap xs w)
 (ad : Addr) (m c : Nat) (ys : List Int) (hx : a.eval x = .slice (some ad) m c) (hY : Ws w (some ad) m c ys) (hm : 0 < m) (hb : n + m ≤ 1000000000000)
 (h : ∀ A' cap' w', X.Outs A' (n + m) cap' (xs ++ ys) w' → w.grownBy w' (Value.ownBlock (.slice A n cap)) → (∀ bd, A' = some bd → A = some bd ∨ w.heap.size ≤ bd.block) → wpList Tryz.prog ops Q rest (a.put o.dst (.slice A' (n + m) cap')) w') : wpList Tryz.prog ops Q (o :: rest) a w := by
 obtain ⟨i0, hi, hz0, hz1, hz2⟩ := info_parts M.info32
 have hl : (ys.map (Value.int .u32)).length = m * 1 := by rw [List.length_map, hY.len, Nat.mul_one]
 have hnews : ∀ j u, (ys.map (Value.int .u32))[j]? = some u → w.cell? (ad.add j) = some u := by
  intro j u hj
  rw [List.getElem?_map, Option.map_eq_some_iff] at hj
  obtain ⟨y, hy, rfl⟩ := hj
  exact hY.cel ad rfl j y hy
 have h1 : ∀ u ∈ ys.map (Value.int .u32), u.oneCell' = true := by
  intro u hu
  obtain ⟨y, _, rfl⟩ := List.mem_map.1 hu
  rfl
 rcases hown.2 with ⟨h2, h3⟩ | ⟨g, cap', cur, hv, _, hg, hle, hcm, hcs, ht⟩
 · cases h2
   have hxs : xs = [] := List.eq_nil_of_length_eq_zero hown.len
   subst hxs
   refine wpList_append_own w hgd s x 22 ho w.heap.size 43 i0 (.int .u32 0) 1 4 Tryz.underlying22 hi hz0 hz1 hz2 rfl (by decide) _ 0 [] hs (World.ownsRow_nil w _ _ _) ad m c _ hx hl hnews h1 (by unfold maxLen; omega) (by omega) (Nat.le_refl _) ?_
   intro v' w' q1 q2 q3
   rcases q1.2 with ⟨q4, q5⟩ | ⟨g', cap', cur, q4, q5, q6⟩
   · omega
   · subst q4
     refine h _ _ w' ?_ q2 fun bd e => ?_
     · refine ⟨by simpa using q1.1, Or.inr ⟨g', cap', cur, rfl, Nat.zero_le _, ?_⟩⟩
       simpa using q6
     · cases e; exact Or.inr q5
 · cases hv
   rw [Nat.mul_one] at hcs ht
   by_cases room : n + m ≤ cap
   · have hfit : n * i0.size + (ys.map (Value.int .u32)).length ≤ cur.size := by rw [hz1, hl, hcs]; omega
     have hr := fun ty => run_append_room (P := Tryz.prog) w 22 ty 43 i0 Tryz.underlying22 hi g n cap cur hg ad m c _ (by rw [hz1]; exact hl) hnews h1 room hfit
     refine wpList_plain hgd fun _ hK => ?_
     unfold Oper.wp execOp
     simp only [ho, resolve, invoke, builtin, Sem.run_bind, Sem.run_pure, Result.andThen_ok, List.map_toArray, List.map_cons, List.map_nil, hs, hx, hr]
     refine hK _ _ (h _ _ _ ?_ ?_ fun bd e => Or.inl e)
     · refine ⟨by rw [List.length_map, List.length_append, hown.len, hY.len, Nat.mul_one], Or.inr ⟨g, cap, _, rfl, Nat.zero_le _, setRow_heap w g cur _ _ _ hg, room, hcm, ?_, ?_⟩⟩
       · simp only [List.size_toArray, List.length_append, List.length_take, List.length_drop, Array.length_toList]
         rw [Nat.mul_one]
         omega
       · rw [hz1, Nat.mul_one, Nat.mul_one, ht, ← List.map_append]
         have e : n + m = ((xs ++ ys).map (Value.int .u32)).length := by rw [List.length_map, List.length_append, hown.len, hY.len]
         rw [e]
         exact List.take_left
     · exact ⟨rfl, rfl, rfl, by simp, fun k _ hk => setRow_other w g k _ (fun e => hk (by simp [Value.ownBlock, e]))⟩
   · have holds : ∀ j u, (xs.map (Value.int .u32))[j]? = some u → w.cell? ((⟨g, 0, none⟩ : Addr).add j) = some u := World.ownsRow.cells hown (g := g) rfl
     have hr := fun ty => run_append_grow (P := Tryz.prog) w 22 ty 43 i0 (.int .u32 0) Tryz.underlying22 hi hz0 ⟨g, 0, none⟩ n cap _ (by rw [hz1, Nat.mul_one, List.length_map, hown.len]) holds ad m c _ (by rw [hz1]; exact hl) hnews (by omega) (by omega) (growslice_fits (by omega) (by rw [hz2]; omega))
     have hge := grownCap_ge w (n + m) cap 43
     have hcm' : grownCap w (n + m) cap 43 ≤ maxLen := grownCap_le_maxLen w (n + m) cap _ (by unfold maxLen; omega)
     refine wpList_plain hgd fun _ hK => ?_
     unfold Oper.wp execOp
     simp only [ho, resolve, invoke, builtin, Sem.run_bind, Sem.run_pure, Result.andThen_ok, List.map_toArray, List.map_cons, List.map_nil, hs, hx, hr]
     refine hK _ _ (h _ _ _ ?_ ⟨rfl, rfl, rfl, by simp, fun k hk _ => heap_alloc_old w.drew _ hk⟩ fun bd e => Or.inr (by cases e; exact Nat.le_refl _))
     have e : n + m = ((xs ++ ys).map (Value.int .u32)).length := by rw [List.length_map, List.length_append, hown.len, hY.len]
     refine ⟨by rw [Nat.mul_one]; exact e.symm, Or.inr ⟨w.heap.size, _, _, rfl, Nat.zero_le _, heap_alloc_new w.drew _, hge, hcm', ?_, ?_⟩⟩
     · simp only [Array.size_append, List.size_toArray, size_zeroCells, Nat.mul_one, List.length_map, hown.len, hY.len]
       show n + m + (_ - (n + m)) * 1 = _
       omega
     · simp only [Array.toList_append, List.append_assoc]
       rw [← List.append_assoc, Nat.mul_one, ← List.map_append, e]
       exact List.take_left
theorem ret1 {k : IntKind} {a b : Int} {w : World} (h : a = b) : Ending.returned (.int k a) = .returned (.int k b) ∧ w = w := ⟨by rw [h], rfl⟩
theorem ret1b {a b : Bool} {w : World} (h : a = b) : Ending.returned (.bool a) = .returned (.bool b) ∧ w = w := ⟨by rw [h], rfl⟩
theorem ret3 {k : IntKind} {a b : Int} {c d e f : Bool} {w : World} (h : a = b) (h1 : c = d) (h2 : e = f) :
 Ending.returned (.tuple #[.int k a, .bool c, .bool e]) = .returned (.tuple #[.int k b, .bool d, .bool f]) ∧ w = w := ⟨by rw [h, h1, h2], rfl⟩
theorem ret3i {k l : IntKind} {a b c d : Int} {e f : Bool} {w : World} (h : a = b) (h1 : c = d) (h2 : e = f) :
 Ending.returned (.tuple #[.int k a, .int l c, .bool e]) = .returned (.tuple #[.int k b, .int l d, .bool f]) ∧ w = w := ⟨by rw [h, h1, h2], rfl⟩
theorem ret3iw {k l : IntKind} {a b c d : Int} {e f : Bool} {w : World} (h : a = b) (h1 : c = d) (h2 : e = f) :
 Ending.returned (.tuple #[.int k a, .int l c, .bool e]) = .returned (.tuple #[.int k b, .int l d, .bool f]) ∧ w = w := ⟨by rw [h, h1, h2], rfl⟩
theorem ret2i {k l : IntKind} {a b c d : Int} {w : World} (h : a = b) (h1 : c = d) :
 Ending.returned (.tuple #[.int k a, .int l c]) = .returned (.tuple #[.int k b, .int l d]) ∧ w = w := ⟨by rw [h, h1], rfl⟩
set_option maxHeartbeats 400000 in
theorem unit_any (c : Bool) (w : World) :
 Calls Tryz.prog 152 #[.bool c] w fun e w' => e = .returned (.int .i64 (W.one c)) ∧ w = w' := by
 cases c
 all_goals
  go_enter Tryz.func152, Tryz.ntmps152
  go_wp2
  go_ret
  exact ret1 rfl
set_option maxHeartbeats 400000 in
theorem isSigned_any (x : Int) (w : World) :
 Calls Tryz.prog 153 #[.int .i64 x] w fun e w' => e = .returned (.bool (W.inS x)) ∧ w = w' := by
 by_cases h : -2147483648 ≤ x
 · go_enter Tryz.func153, Tryz.ntmps153
   go_wp2
   go_ret
   exact ret1b (by simp [W.inS, h])
 · go_enter Tryz.func153, Tryz.ntmps153
   go_wp2
   go_ret
   exact ret1b (by simp [W.inS]; omega)
set_option maxHeartbeats 400000 in
theorem signed_any (a : Int) (h0 : 0 ≤ a) (h1 : a < 4294967296) (w : World) :
 Calls Tryz.prog 154 #[.int .u32 a] w fun e w' => e = .returned (.int .i64 (W.sgn a)) ∧ w = w' := by
 go_enter Tryz.func154, Tryz.ntmps154
 go_wp2
 go_ret
 exact ret1 (W.wrap_sgn a h0 h1)
set_option maxHeartbeats 400000 in
theorem add_any (a b : Int) (c : Bool) (h0 : 0 ≤ a) (h1 : a < 4294967296) (h2 : 0 ≤ b) (h3 : b < 4294967296) (w : World) :
 Calls Tryz.prog 144 #[.int .u32 a, .int .u32 b, .bool c] w fun e w' =>
  e = .returned (.tuple #[.int .u32 (W.low (a + b + W.one c)), .bool (W.over (a + b + W.one c)), .bool (!W.inS (W.sgn a + W.sgn b + W.one c))]) ∧ w = w' := by
 have o1 := W.one_lo c
 have o2 := W.one_hi c
 have s1 := W.sgn_lo a h0
 have s2 := W.sgn_hi a h1
 have s3 := W.sgn_lo b h2
 have s4 := W.sgn_hi b h3
 go_enter Tryz.func144, Tryz.ntmps144
 go_wp2_with (first
  | (go_at_call 152; refine (unit_any _ _).mono ?_; rintro e w' ⟨rfl, rfl⟩)
  | (go_at_call 154; refine (signed_any _ (by omega) (by omega) _).mono ?_; rintro e w' ⟨rfl, rfl⟩)
  | (go_at_call 153; refine (isSigned_any _ _).mono ?_; rintro e w' ⟨rfl, rfl⟩))
 go_ret3
 exact ret3 rfl rfl rfl
set_option maxHeartbeats 400000 in
theorem sub_any (a b : Int) (c : Bool) (h0 : 0 ≤ a) (h1 : a < 4294967296) (h2 : 0 ≤ b) (h3 : b < 4294967296) (w : World) :
 Calls Tryz.prog 147 #[.int .u32 a, .int .u32 b, .bool c] w fun e w' =>
  e = .returned (.tuple #[.int .u32 (W.low (a - b - W.one c)), .bool (W.neg (a - b - W.one c)), .bool (!W.inS (W.sgn a - W.sgn b - W.one c))]) ∧ w = w' := by
 have o1 := W.one_lo c
 have o2 := W.one_hi c
 have s1 := W.sgn_lo a h0
 have s2 := W.sgn_hi a h1
 have s3 := W.sgn_lo b h2
 have s4 := W.sgn_hi b h3
 go_enter Tryz.func147, Tryz.ntmps147
 go_wp2_with (first
  | (go_at_call 152; refine (unit_any _ _).mono ?_; rintro e w' ⟨rfl, rfl⟩)
  | (go_at_call 154; refine (signed_any _ (by omega) (by omega) _).mono ?_; rintro e w' ⟨rfl, rfl⟩)
  | (go_at_call 153; refine (isSigned_any _ _).mono ?_; rintro e w' ⟨rfl, rfl⟩))
 go_ret3
 exact ret3 rfl rfl rfl
set_option maxHeartbeats 400000 in
theorem mul_any (a b : Int) (u : Bool) (h0 : 0 ≤ a) (h1 : a < 4294967296) (h2 : 0 ≤ b) (h3 : b < 4294967296) (w : World) :
 Calls Tryz.prog 150 #[.int .u32 a, .int .u32 b, .bool u] w fun e w' =>
  e = .returned (.tuple #[.int .u32 (W.low (W.prod u a b)), .int .u32 (W.low (W.prod u a b / 4294967296))]) ∧ w = w' := by
 cases u
 · go_enter Tryz.func150, Tryz.ntmps150
   go_wp2_with (first
    | (go_at_call 154; refine (signed_any _ (by omega) (by omega) _).mono ?_; rintro e w' ⟨rfl, rfl⟩))
   go_ret2
   exact ret2i (W.wrapS _) (W.wrapS' _)
 · go_enter Tryz.func150, Tryz.ntmps150
   go_wp2_with (first
    | (go_at_call 154; refine (signed_any _ (by omega) (by omega) _).mono ?_; rintro e w' ⟨rfl, rfl⟩))
   go_ret2
   exact ret2i (W.wrapU _) (W.wrapU' _)
set_option maxHeartbeats 400000 in
theorem shift_any (k a n : Int) (h0 : 0 ≤ a) (h1 : a < 4294967296) (h2 : 0 ≤ n) (h3 : n < 4294967296) (w : World) :
 Calls Tryz.prog 135 #[.int .i64 k, .int .u32 a, .int .u32 n] w fun e w' =>
  e = .returned (.int .u32 (W.shift k a n)) ∧ w = w' := by
 have Hm : Hid (((32 - ((n % 32).toNat : Int)).toNat) = 32 - (n % 32).toNat) := Lib.hid (by omega)
 have Hn : Hid ((((n % 32).toNat : Nat) : Int) = n % 32) := Lib.hid (by omega)
 have hlt : (n % 32).toNat < 32 := by omega
 go_enter Tryz.func135, Tryz.ntmps135
 go_wp2
 all_goals go_ret
 · rename_i hk
   exact ret1 (by have : k = 1 := by simpa using hk
                  simp only [W.shift, W.shiftN, if_pos this]; rfl)
 · rename_i hk1 hk
   exact ret1 (by have h : k = 2 := by simpa using hk
                  have h' : ¬ k = 1 := by omega
                  simp only [W.shift, W.shiftN, if_neg h', if_pos h, W.sr]
                  rw [W.wrap32_sgn a h0 h1])
 · rename_i hk1 hk2 hk
   exact ret1 (by have h : k = 3 := by simpa using hk
                  have h' : ¬ k = 1 := by omega
                  have h'' : ¬ k = 2 := by omega
                  simp only [W.shift, W.shiftN, if_neg h', if_neg h'', if_pos h]
                  have := W.ro_bits a (n % 32).toNat hlt h0 h1 Hm.out
                  rw [Hn.out] at this
                  exact this)
 · rename_i hk1 hk2 hk
   exact ret1 (by have h : ¬ k = 3 := by simpa using hk
                  have h' : ¬ k = 1 := by simpa using hk1
                  have h'' : ¬ k = 2 := by simpa using hk2
                  simp only [W.shift, W.shiftN, if_neg h', if_neg h'', if_neg h])
set_option maxHeartbeats 400000 in
theorem div_no (a b : Int) (h0 : 0 ≤ a) (h1 : a < 4294967296) (h2 : 0 ≤ b) (h3 : b < 4294967296) (hb : W.sgn b ≤ 0) (w : World) :
 Calls Tryz.prog 155 #[.int .u32 a, .int .u32 b] w fun e w' =>
  e = .returned (.tuple #[.int .u32 0, .int .u32 0, .bool false]) ∧ w = w' := by
 go_enter Tryz.func155, Tryz.ntmps155
 go_wp2_with (first
  | (go_at_call 154; refine (signed_any _ (by omega) (by omega) _).mono ?_; rintro e w' ⟨rfl, rfl⟩))
 go_ret3
 exact ret3i rfl rfl rfl
set_option maxHeartbeats 400000 in
theorem div_yes (a b : Int) (h0 : 0 ≤ a) (h1 : a < 4294967296) (h2 : 0 ≤ b) (h3 : b < 4294967296) (hb : 0 < W.sgn b) (w : World) :
 Calls Tryz.prog 155 #[.int .u32 a, .int .u32 b] w fun e w' =>
  e = .returned (.tuple #[.int .u32 (W.low (W.sgn a / W.sgn b)), .int .u32 (W.low (W.sgn a % W.sgn b)), .bool true]) ∧ w.drew = w' := by
 have s1 := W.sgn_lo a h0
 have s2 := W.sgn_hi a h1
 have s4 := W.sgn_hi b h3
 have hb1 : (W.sgn b == 0) = false := by simp; omega
 go_enter Tryz.func155, Tryz.ntmps155
 go_wp2_with (first
  | (go_at_call 154; refine (signed_any _ (by omega) (by omega) _).mono ?_; rintro e w' ⟨rfl, rfl⟩))
 go_region
 all_goals go_wp2
 all_goals go_ret3
 · rename_i hneg
   exact ret3iw (by rw [W.wrap64_low, (W.quo_neg _ _ hb hneg).1]) (by rw [W.wrap64_low, (W.quo_neg _ _ hb hneg).2]) rfl
 · rename_i hpos
   exact ret3iw (by rw [(W.quo_pos _ _ hb (by omega)).1]; rfl) (by rw [(W.quo_pos _ _ hb (by omega)).2]; rfl) rfl
theorem A.show_eq (x : Int) (h0 : 0 ≤ x) (h1 : x < 4294967296) : (x / 2147483648 == 1) = decide (2147483648 ≤ x) := by
 rw [Bool.eq_iff_iff]; simp; omega
theorem A.info25 (s : A.Regs) : (Tryz.prog.info? 48).map (·.size) = some (A.cells s).size := by rw [A.size_cells]; kernel_rfl
theorem show_any (s : A.Regs) (x : Int) (h0 : 0 ≤ x) (h1 : x < 4294967296) (w : World) :
 Calls Tryz.prog 107 #[.agg (A.cells s), .int .u32 x] w fun e w' => e = .returned (.agg (A.cells (A.show' s x))) ∧ Kept w w' := by
 go_enter Tryz.func107, Tryz.ntmps107
 go_wp2_with (first
  | (with_reducible refine load_has rfl 48 _ rfl _ rfl ((Has.new _ _ _).alloc _) Tryz.underlying48 rfl (A.info25 _) ?_)
  | (with_reducible refine store_last rfl 48 _ _ rfl _ _ rfl rfl (by simp) (A.info25 _) (by kernel_rfl) (A.one_cells _) ?_))
 refine bodyPost_ret (results_has rfl (w.heap.size + 1) rfl (by have := Has.new (A.cells (A.setZ (A.setN s (x / 2147483648 == 1)) (x == 0))) 48 (w.alloc (Obj.cells (A.cells (A.setZ (A.setN s (x / 2147483648 == 1)) (x == 0))) 48)); simpa using this) Tryz.underlying48 rfl (A.info25 _)) rfl ⟨?_, ?_⟩
 · rw [A.show_eq x h0 h1]; rfl
 · exact ((Kept.refl w).alloc _ _).alloc _ _
theorem A.infoOp (s : A.Regs) (b n : Int) (u : Bool) : (Tryz.prog.info? 150).map (·.size) = some (A.opnd s b n u).size := by rw [A.size_opnd]; kernel_rfl
theorem A.infoOut (x : Int) (s : A.Regs) (t : Int) : (Tryz.prog.info? 147).map (·.size) = some (A.outc x s t).size := by rw [A.size_outc]; kernel_rfl
theorem A.shapeOut : shapeOf Tryz.prog 147 = some (A.outc 0 A.none' 0, [(0, 1), (1, 21), (22, 1)]) := by kernel_rfl
theorem A.builtOut (x : Int) (s : A.Regs) : Tryz.prog.built 147 [(0, .int .u32 x), (1, .agg (A.cells s))] = some (A.outc x s 0) := by
 rw [built_of A.shapeOut]
 simp [Instr.fill, Value.cells, A.cells, A.outc]
theorem just_any (s : A.Regs) (b n x : Int) (u : Bool) (w : World) :
 Calls Tryz.prog 131 #[.agg (A.opnd s b n u), .int .u32 x] w fun e w' => e = .returned (.agg (A.outc x s 0)) ∧ Kept w w' := by
 go_enter Tryz.func131, Tryz.ntmps131
 go_wp2_with (first
  | (with_reducible refine load_part (o := ⟨some 7, _, _, _, _, _⟩) rfl 48 _ rfl _ 0 rfl (A.cells s) ((Has.new _ _ _).alloc _) (A.opnd_regs _ _ _ _) Tryz.underlying48 rfl (A.info25 _) ?_)
  | ((with_reducible refine build_has (o := ⟨some 8, _, _, _, _, _⟩) rfl 147 _ rfl (A.outc x s 0) ?hf8 ?_); (case hf8 => (go_simp; exact A.builtOut x s)))
  | (with_reducible refine store_last (o := ⟨none, _, _, _, _, _⟩) rfl 147 _ _ rfl _ _ rfl rfl (by simp) (A.infoOut _ _ _) (by kernel_rfl) (A.one_outc _ _ _) ?_))
 exact bodyPost_ret (results_has rfl (w.heap.size + 1) rfl (Has.new1 _ _ _ _) Tryz.underlying147 rfl (A.infoOut _ _ _)) rfl ⟨rfl, ((Kept.refl w).alloc _ _).alloc _ _⟩
theorem carry_any (s : A.Regs) (b n : Int) (u : Bool) (w : World) :
 Calls Tryz.prog 145 #[.agg (A.opnd s b n u)] w fun e w' => e = .returned (.bool (u && s.c)) ∧ Kept w w' := by
 cases u
 all_goals
  go_enter Tryz.func145, Tryz.ntmps145
  go_wp2
  go_ret
  exact r1bk (by simp) ((Kept.refl w).alloc _ _)
theorem withFlags_any (s : A.Regs) (b n x : Int) (u c v : Bool) (w : World) :
 Calls Tryz.prog 143 #[.agg (A.opnd s b n u), .int .u32 x, .bool c, .bool v] w fun e w' => e = .returned (.agg (A.outc x (A.setV (A.setC s c) v) 0)) ∧ Kept w w' := by
 go_enter Tryz.func143, Tryz.ntmps143
 go_wp2_with (first
  | (with_reducible refine load_has (o := ⟨some 15, _, _, _, _, _⟩) rfl 150 _ rfl _ rfl ((Has.new _ _ _).alloc _) Tryz.underlying150 rfl (A.infoOp _ _ _ _) ?_)
  | (with_reducible refine store_has (o := ⟨none, Op.store 147 _ _, _, _, _, _⟩) rfl 147 _ _ rfl _ _ rfl rfl (by assumption) (A.infoOut _ _ _) (by kernel_rfl) (A.one_outc _ _ _) ?_)
  | (go_at_call 131; (refine (just_any _ _ _ _ _ _).mono ?_; rintro e w2 ⟨rfl, hK2⟩); (have hX := (Has.new1 _ _ _ _).kept hK2); (have hK := (((Kept.refl w).alloc _ _).alloc _ _).trans hK2); clear hK2))
 exact bodyPost_ret (results_has rfl (w.heap.size + 1) rfl (hX.row _) Tryz.underlying147 rfl (A.infoOut _ _ _)) rfl ⟨rfl, hK.row (by omega) _⟩
theorem withHigh_any (s : A.Regs) (b n x h : Int) (u : Bool) (w : World) :
 Calls Tryz.prog 149 #[.agg (A.opnd s b n u), .int .u32 x, .int .u32 h] w fun e w' => e = .returned (.agg (A.outc x (A.setH s h) 0)) ∧ Kept w w' := by
 go_enter Tryz.func149, Tryz.ntmps149
 go_wp2_with (first
  | (with_reducible refine load_has (o := ⟨some 10, _, _, _, _, _⟩) rfl 150 _ rfl _ rfl ((Has.new _ _ _).alloc _) Tryz.underlying150 rfl (A.infoOp _ _ _ _) ?_)
  | (with_reducible refine store_has (o := ⟨none, Op.store 147 _ _, _, _, _, _⟩) rfl 147 _ _ rfl _ _ rfl rfl (by assumption) (A.infoOut _ _ _) (by kernel_rfl) (A.one_outc _ _ _) ?_)
  | (go_at_call 131; refine (just_any _ _ _ _ _ _).mono ?_; rintro e w2 ⟨rfl, hK2⟩; have hX := (Has.new1 _ _ _ _).kept hK2; have hK := (((Kept.refl w).alloc _ _).alloc _ _).trans hK2; clear hK2))
 exact bodyPost_ret (results_has rfl (w.heap.size + 1) rfl (hX.row _) Tryz.underlying147 rfl (A.infoOut _ _ _)) rfl ⟨rfl, hK.row (by omega) _⟩
end Go.Proofs.YtpfgmfiegnkocaaGreat
