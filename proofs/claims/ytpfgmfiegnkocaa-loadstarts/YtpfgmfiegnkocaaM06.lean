/-
  Joined: Ob2, Ob3.
-/
import Derived.StillTailTactics
import Derived.Test.YtpfgmfiegnkocaaM04
import Derived.Test.YtpfgmfiegnkocaaM05
import Derived.Test.YtpfgmfiegnkocaaLe1
/-
  The closures of object.May that ask names; object.May.
-/
namespace Go.Proofs.Ytpfgmfiegnkocaa
open Go.RowKit
set_option linter.unusedVariables false
set_option linter.unusedSimpArgs false
set_option maxRecDepth 100000
set_option maxRecDepth 100000
theorem Below.newCell {w : World} {p : Addr} {v : Value} (h : w.cell? p = some v) (o : Obj) : (w.alloc o).cell? p = some v :=
  (World.cell?_of_block (Below.heap_alloc w o p.block (World.block_lt_of_cell? w p h))).trans h
/-- a place beyond, or none -/
theorem Ob.nowhere_any {w : World} {E : Nat} {e : Int} (s : ByteArray) (a : Int) (g : w.cell? ⟨E, 0, none⟩ = some (.int .i64 e)) :
    Calls Try.prog 41 #[.agg #[.string s, .int .i64 a], .pointer (some ⟨E, 0, none⟩)] w fun e' w' => e' = .returned (.bool (!decide (0 ≤ a ∧ a ≤ e ∧ a % 4 = 0))) ∧ Below w.heap.size w w' := by
  have g2 := Below.newCell g (.cells #[.string s, .int .i64 a] 69)
  have hm := Lib.hid ((Kept.refl w).alloc #[.string s, .int .i64 a] 69).below
  clear g
  obtain ⟨q, hq⟩ : ∃ q, q = !decide (0 ≤ a ∧ a ≤ e ∧ a % 4 = 0) := ⟨_, rfl⟩
  rw [← hq]
  by_cases c1 : a < 0
  · have R := Lib.hid (show q = true by rw [hq, decide_eq_false (by omega)]; rfl)
    clear hq
    go_enter Try.func41, Try.ntmps41
    go_wp2
    go_ret
    exact ⟨Ob.retB R.out.symm, hm.out⟩
  · by_cases c2 : e < a
    · have R := Lib.hid (show q = true by rw [hq, decide_eq_false (by omega)]; rfl)
      clear hq
      go_enter Try.func41, Try.ntmps41
      go_wp2
      go_ret
      exact ⟨Ob.retB R.out.symm, hm.out⟩
    · by_cases c3 : a % 4 = 0
      · have R := Lib.hid (show q = false by rw [hq, decide_eq_true (by omega)]; rfl)
        clear hq
        go_enter Try.func41, Try.ntmps41
        go_wp2
        go_ret
        exact ⟨Ob.retB R.out.symm, hm.out⟩
      · have R := Lib.hid (show q = true by rw [hq, decide_eq_false (by omega)]; rfl)
        have c4 : (a % 4 != 0) = true := by simpa using c3
        have c5 : (a % 4 == 0) = false := by simpa using c3
        clear hq
        go_enter Try.func41, Try.ntmps41
        go_wp2
        go_ret
        exact ⟨Ob.retB R.out.symm, hm.out⟩
theorem Ob.wrongInTurn_any (w : World) :
    Calls Try.prog 44 #[] w fun e w' => e = .returned (.func (.func 52) #[] #[.pointer (some ⟨w.heap.size, 0, none⟩)]) ∧ w' = w.alloc (.cells #[.string Ob.e0] 9) := by
  have e : Ob.e0 = { data := #[] } := rfl
  rw [e]
  go_enter Try.func44, Try.ntmps44
  go_wp2
  go_ret
  exact ⟨rfl, rfl⟩
/-- the closure that has the name ahead -/
theorem Ob.turn_any {w : World} {G : Nat} {p : ByteArray} (hG : Has G #[.string p] 9 w) (s : ByteArray) (a : Int) (hs : s.size ≤ 1000000) :
    Calls Try.prog 52 #[.agg #[.string s, .int .i64 a], .pointer (some ⟨G, 0, none⟩)] w fun e w' => e = .returned (.bool (!decide (L.name (L.bs s) = true ∧ Ob.bl p s = true))) ∧ Has G #[.string s] 9 w' ∧ But G w w' := by
  have hG1 := hG.alloc (.cells #[.string s, .int .i64 a] 69)
  have hm := Lib.hid (((But.refl G w).setCell 0 (.string s)).trans (((Kept.refl _).alloc #[.string s, .int .i64 a] 69).but G))
  have g1 := hG1.cell 0 (.string p) rfl
  have g2 := hG1.free 0
  have hG2 := Lib.hid (show Has G #[.string s] 9 _ from (hG.set 0 (.string s)).alloc (.cells #[.string s, .int .i64 a] 69))
  have C := Lib.hid (fun w => L.name_any s hs w)
  have hlt := hG.lt
  have hne : (G = w.heap.size) = False := eq_false (by omega)
  clear hG hG1
  obtain ⟨q, hq⟩ : ∃ q, q = !decide (L.name (L.bs s) = true ∧ Ob.bl p s = true) := ⟨_, rfl⟩
  rw [← hq]
  cases c1 : L.name (L.bs s) with
  | false =>
    have R := Lib.hid (show q = true by rw [hq, decide_eq_false (by rw [c1]; simp)]; rfl)
    rw [c1] at C
    clear hq
    go_enter Try.func52, Try.ntmps52
    go_wp2_with (fail)
    refine (C.out _).mono ?_; rintro e w2 ⟨rfl, rfl⟩
    go_wp2
    go_ret
    exact ⟨Ob.retB R.out.symm, hG2.out, hm.out⟩
  | true =>
    rw [c1] at C
    cases c2 : Ob.bl p s with
    | true =>
      have R := Lib.hid (show q = false by rw [hq, decide_eq_true ⟨c1, c2⟩]; rfl)
      have c3 := Ob.le_not c2
      clear hq
      go_enter Try.func52, Try.ntmps52
      go_wp2_with (fail)
      refine (C.out _).mono ?_; rintro e w2 ⟨rfl, rfl⟩
      go_wp2
      go_ret
      exact ⟨Ob.retB R.out.symm, hG2.out, hm.out⟩
    | false =>
      have R := Lib.hid (show q = true by rw [hq, decide_eq_false (by rw [c2]; simp)]; rfl)
      have c3 := Ob.le_yes c2
      clear hq
      go_enter Try.func52, Try.ntmps52
      go_wp2_with (fail)
      refine (C.out _).mono ?_; rintro e w2 ⟨rfl, rfl⟩
      go_wp2
      go_ret
      exact ⟨Ob.retB R.out.symm, hG2.out, hm.out⟩
end Go.Proofs.Ytpfgmfiegnkocaa
/-
  The contract of object.May.
-/
namespace Go.Proofs.Ytpfgmfiegnkocaa
open Go.RowKit
set_option linter.unusedVariables false
set_option linter.unusedSimpArgs false
set_option maxRecDepth 100000
theorem Bel.but {N G : Nat} {a b c : World} (h : Below N a b) (k : But G b c) (hN : N ≤ G) (hs : N ≤ b.heap.size) : Below N a c :=
  h.trans ⟨k.os, k.tape, k.output, k.size, fun i hi => k.block i (by omega) (by omega)⟩
theorem Ob.not_low {ws ss : List Int} {n m : Nat} (hn : ws.length = n) (hm : ss.length = m) : decide (∃ k, k < m ∧ decide (4 * (n : Int) < ws.getD (ss.getD k 0).toNat 0) = true) = !decide (Ob.Low ws ss) := by
  subst hn hm
  rw [← decide_not]
  apply decide_eq_decide.2
  constructor
  · rintro ⟨k, hk, h⟩ hL
    have := hL k hk
    unfold Ob.LowAt Ch.val at this
    have h := of_decide_eq_true h
    omega
  · intro h
    apply Classical.byContradiction
    intro hn
    refine h fun k hk => ?_
    unfold Ob.LowAt Ch.val
    rcases Int.lt_or_le (4 * (ws.length : Int)) (ws.getD (ss.getD k 0).toNat 0) with c | c
    · exact absurd ⟨k, hk, decide_eq_true c⟩ hn
    · exact c
theorem Ob.not_names {ys : List Ob.Y} {n : Nat} (hn : ys.length = n) : decide (∃ k, k < n ∧ (!decide (L.name (L.bs (Ob.nm ys k)) = true ∧ Ob.bl (Ob.pr ys k) (Ob.nm ys k) = true)) = true) = !decide (Ob.Names ys) := by
  subst hn
  rw [← decide_not]
  apply decide_eq_decide.2
  constructor
  · rintro ⟨k, hk, h⟩ hL
    have := hL k hk
    unfold Ob.OkN at this
    rw [decide_eq_true this] at h
    cases h
  · intro h
    apply Classical.byContradiction
    intro hn
    refine h fun k hk => ?_
    apply Classical.byContradiction
    intro c
    unfold Ob.OkN at c
    exact hn ⟨k, hk, by rw [decide_eq_false c]; rfl⟩
theorem Ob.not_places {ys : List Ob.Y} {n : Nat} {e : Int} (hn : ys.length = n) : decide (∃ k, k < n ∧ (!decide (0 ≤ Ob.pl ys k ∧ Ob.pl ys k ≤ e ∧ Ob.pl ys k % 4 = 0)) = true) = !decide (Ob.Places e ys) := by
  subst hn
  rw [← decide_not]
  apply decide_eq_decide.2
  constructor
  · rintro ⟨k, hk, h⟩ hL
    have := hL k hk
    unfold Ob.OkP at this
    rw [decide_eq_true this] at h
    cases h
  · intro h
    apply Classical.byContradiction
    intro hn
    refine h fun k hk => ?_
    apply Classical.byContradiction
    intro c
    unfold Ob.OkP at c
    exact hn ⟨k, hk, by rw [decide_eq_false c]; rfl⟩
theorem Ob.size_at {ys : List Ob.Y} {M : Nat} (h : ∀ y ∈ ys, y.1.size ≤ M) (k : Nat) : (Ob.nm ys k).size ≤ M := by
  rcases Nat.lt_or_ge k ys.length with c | c
  · rw [Ob.nm_get c]; exact h _ (List.getElem_mem c)
  · unfold Ob.nm
    rw [List.getD_eq_getElem?_getD, List.getElem?_eq_none c]
    exact Nat.zero_le _
/-- the three calls of ContainsFunc -/
theorem Ob.asks_low {w : World} {A B : Option Addr} {n c m d O E : Nat} {V1 V2 : Value} {ws ss : List Int} (hW : Wo w A n c ws) (hS : In w B m d ss) (hR : Ch.Rises n ss) (hO : Has O #[.slice A n c, V1, V2] 26 w) (hE : Has E #[.int .i64 (4 * (n : Int))] 3 w) :
    Calls Try.prog 42 #[.slice B m d, .func (.func 40) #[] #[.pointer (some ⟨O, 0, none⟩), .pointer (some ⟨E, 0, none⟩)]] w fun e w' => e = .returned (.bool (!decide (Ob.Low ws ss))) ∧ Below w.heap.size w w' := by
  rw [← Ob.not_low hW.len hS.len]
  refine (Ob.contains_int #[.pointer (some ⟨O, 0, none⟩), .pointer (some ⟨E, 0, none⟩)] (fun k => decide (4 * (n : Int) < ws.getD (ss.getD k 0).toNat 0)) (fun _ w' => Below w.heap.size w w') (fun k w' hb => ⟨hS.len, hS.le, hS.max, hS.nil, (hS.below hb).cel⟩) ?_ w (Below.refl _ _)).mono fun e w' h => ⟨h.1, h.2.elim fun k hk => hk⟩
  intro k w' hk hb
  have h1 := Ch.at_ge hR k (by rw [hS.len]; exact hk)
  obtain ⟨s, hs⟩ : ∃ s : Nat, ss.getD k 0 = s := ⟨_, (Int.toNat_of_nonneg h1.1).symm⟩
  have hsn : s < n := by omega
  obtain ⟨b, off, rfl⟩ := hW.place (by omega)
  rw [hs, Int.toNat_natCast]
  refine (Ob.beyond_any (V1 := V1) (V2 := V2) ((hO.below hb).cell 0 _ rfl) (hW.below hb) ((hE.below hb).cell 0 _ rfl) s hsn).mono fun e w'' h => ⟨h.1, hb.trans (h.2.mono hb.size)⟩
theorem Ob.asks_names {w w1 : World} {C : Option Addr} {k c G : Nat} {ys : List Ob.Y} (hY : Sy w C k c ys) (hsz : ∀ y ∈ ys, y.1.size ≤ 1000000) (hb : Below w.heap.size w w1) (hG : Has G #[.string Ob.e0] 9 w1) (hN : w.heap.size ≤ G) :
    Calls Try.prog 43 #[.slice C k c, .func (.func 52) #[] #[.pointer (some ⟨G, 0, none⟩)]] w1 fun e w' => e = .returned (.bool (!decide (Ob.Names ys))) ∧ Below w.heap.size w w' := by
  rw [← Ob.not_names hY.len]
  refine (Ob.contains_turn #[.pointer (some ⟨G, 0, none⟩)] (fun j => !decide (L.name (L.bs (Ob.nm ys j)) = true ∧ Ob.bl (Ob.pr ys j) (Ob.nm ys j) = true)) (fun j w' => Has G #[.string (Ob.pr ys j)] 9 w' ∧ Below w.heap.size w w') (fun j w' h => hY.below h.2) ?_ _ ⟨hG, hb⟩).mono fun e w' h => ⟨h.1, h.2.elim fun j hj => hj.2⟩
  intro j w' hj h
  refine (Ob.turn_any h.1 (Ob.nm ys j) (Ob.pl ys j) (Ob.size_at hsz j)).mono fun e w'' q => ⟨q.1, q.2.1, Bel.but h.2 q.2.2 hN h.2.size⟩
theorem Ob.asks_places {w : World} {C : Option Addr} {k c E : Nat} {ys : List Ob.Y} {e : Int} (hY : Sy w C k c ys) (hE : Has E #[.int .i64 e] 3 w) :
    Calls Try.prog 43 #[.slice C k c, .func (.func 41) #[] #[.pointer (some ⟨E, 0, none⟩)]] w fun r w' => r = .returned (.bool (!decide (Ob.Places e ys))) ∧ Below w.heap.size w w' := by
  rw [← Ob.not_places hY.len]
  refine (Ob.contains_at #[.pointer (some ⟨E, 0, none⟩)] (fun j => !decide (0 ≤ Ob.pl ys j ∧ Ob.pl ys j ≤ e ∧ Ob.pl ys j % 4 = 0)) (fun _ w' => Below w.heap.size w w') (fun j w' h => hY.below h) ?_ w (Below.refl _ _)).mono fun e w' h => ⟨h.1, h.2.elim fun k hk => hk⟩
  intro j w' hj hb
  refine (Ob.nowhere_any (Ob.nm ys j) (Ob.pl ys j) ((hE.below hb).cell 0 _ rfl)).mono fun e w'' h => ⟨h.1, hb.trans (h.2.mono hb.size)⟩
set_option maxRecDepth 100000 in
set_option maxHeartbeats 2000000 in
theorem Ob.may_any {w : World} {A B C : Option Addr} {n c m d k e : Nat} {ws ss : List Int} {ys : List Ob.Y} (hW : Wo w A n c ws) (hS : In w B m d ss) (hY : Sy w C k e ys) (hsz : ∀ y ∈ ys, y.1.size ≤ 1000000) :
    Calls Try.prog 26 #[.agg #[.slice A n c, .slice B m d, .slice C k e]] w fun r w' => r = .returned (.int .i64 (Ob.may ws ss ys)) ∧ Below w.heap.size w w' := by
  have hO := Has.new #[.slice A n c, .slice B m d, .slice C k e] 26 w
  have hB := ((Kept.refl w).alloc #[.slice A n c, .slice B m d, .slice C k e] 26).below
  have hlw := hW.len
  have hly := hY.len
  have hle := hW.le
  have hmx := hW.max
  have hle2 := hY.le
  have hmx2 := hY.max
  unfold maxLen at hmx hmx2
  replace hW := Lib.hid (hW.below hB)
  replace hS := Lib.hid (hS.below hB)
  replace hY := Lib.hid (hY.below hB)
  obtain ⟨q, hq⟩ : ∃ q, q = Ob.may ws ss ys := ⟨_, rfl⟩
  rw [← hq]
  by_cases c1 : 1024 < n
  · have R := Lib.hid (hq.trans (Ob.may_2 (Or.inl (by omega))))
    have c2 : (n : Int) > 1024 := by omega
    clear hO hq
    replace hB := Lib.hid hB
    go_enter Try.func26, Try.ntmps26
    go_wp2
    go_ret
    exact ⟨Ob.ret R.out.symm, hB.out⟩
  have c2 : ¬ (n : Int) > 1024 := by omega
  by_cases c3 : 64 < k
  · have R := Lib.hid (hq.trans (Ob.may_2 (Or.inr (by omega))))
    have c4 : (k : Int) > 64 := by omega
    clear hO hq
    replace hB := Lib.hid hB
    go_enter Try.func26, Try.ntmps26
    go_wp2
    go_ret
    exact ⟨Ob.ret R.out.symm, hB.out⟩
  have c4 : ¬ (k : Int) > 64 := by omega
  have hbig : ¬ (1024 < ws.length ∨ 64 < ys.length) := by omega
  replace hq := Lib.hid hq
  go_enter Try.func26, Try.ntmps26
  go_wp2_with (fail)
  generalize w.alloc (.cells #[.slice A n c, .slice B m d, .slice C k e] 26) = w1 at *
  refine (Ch.pack_any hW.out hS.out (by omega)).mono ?_; rintro r w2 ⟨A1, n1, m1, rfl, hP, hE⟩
  clear hP
  replace hB := Lib.hid (hB.trans (hE.mono hB.size))
  replace hO := hO.below hE
  replace hW := Lib.hid (hW.out.below hE)
  replace hS := Lib.hid (hS.out.below hE)
  replace hY := Lib.hid (hY.out.below hE)
  clear hE
  by_cases c5 : Ch.Rises ws.length ss
  case neg =>
    have R := Lib.hid (hq.out.trans (Ob.may_7 hbig c5))
    rw [(Ch.pE_no c5).1]
    generalize Ch.pH ws ss = ph at *
    clear hO hq
    go_wp2
    go_ret
    exact ⟨Ob.ret R.out.symm, hB.out⟩
  have c6 : (Ch.pE ws ss == 7) = false := by
    by_cases f : Ch.Fits ws ss
    · rw [(Ch.pE_yes c5 f).1]; rfl
    · rw [(Ch.pE_big c5 f).1]; rfl
  have hR := c5
  rw [hlw] at hR
  replace hR := Lib.hid hR
  replace c5 := Lib.hid c5
  generalize Ch.pE ws ss = pe at *
  generalize Ch.pH ws ss = ph at *
  have o0 := hO.cell 0 (.slice A n c) rfl
  have p1 := Below.newCell (hO.cell 1 (.slice B m d) rfl) (.cells #[.int .i64 (4 * (n : Int))] 3)
  have hA3 := ((Kept.refl w2).alloc #[.int .i64 (4 * (n : Int))] 3).below
  have hF := Has.new #[.int .i64 (4 * (n : Int))] 3 w2
  go_wp2_with (fail)
  generalize w2.alloc (.cells #[.int .i64 (4 * (n : Int))] 3) = w3 at *
  clear o0 p1
  replace hB := Lib.hid (hB.out.trans (hA3.mono hB.out.size))
  replace hO := hO.below hA3
  replace hW := Lib.hid (hW.out.below hA3)
  replace hS := Lib.hid (hS.out.below hA3)
  replace hY := Lib.hid (hY.out.below hA3)
  clear hA3
  refine (Ob.asks_low hW.out hS.out hR.out hO hF).mono ?_; rintro r w4 ⟨rfl, hE⟩
  replace hB := Lib.hid (hB.out.trans (hE.mono hB.out.size))
  replace hO := hO.below hE
  replace hF := hF.below hE
  replace hY := Lib.hid (hY.out.below hE)
  clear hE hW hS hR
  by_cases c7 : Ob.Low ws ss
  case neg =>
    have R := Lib.hid (hq.out.trans (Ob.may_8 hbig c5.out c7))
    rw [decide_eq_false c7]
    clear hO hF hq
    go_wp2
    go_ret
    exact ⟨Ob.ret R.out.symm, hB.out⟩
  rw [decide_eq_true c7]
  replace c7 := Lib.hid c7
  have o2 := hO.cell 2 (.slice C k e) rfl
  replace hO := Lib.hid hO
  replace hF := Lib.hid hF
  clear o2
  go_wp2_with (fail)
  refine wp_region_held_drew (S := fun w' => Below w4.heap.size w4 w') (by kernel_rfl) ((Below.refl _ _).drew) (fun hHeld => ?_)
  replace hB := Lib.hid (hB.out.trans (hHeld.mono hB.out.size))
  replace hO := Lib.hid (hO.out.below hHeld)
  replace hF := Lib.hid (hF.out.below hHeld)
  replace hY := Lib.hid (hY.out.below hHeld)
  refine wpAnyH_now _ _ _ _ hHeld (fun hHeld => ?_)
  generalize w4.drew = w4d at *
  refine wpAnyH_take (i := 0) (oi := { dst := some 43, op := Op.fieldAddr 26 (Operand.tmp 1) 2, type := 0, pos := "object.go:29", after := #[], guard := none }) (v := ?_) rfl (by kernel_rfl) (by kernel_rfl) (by kernel_rfl) (fun _ _ _ h => h) (Or.inl ⟨rfl, ?_⟩) hHeld ?_
  rotate_left
  · (intro wz hSw; go_simp; try with_reducible rfl)
  try simp only [Act.put, List.setIfInBounds_toArray, List.set_cons_zero, List.set_cons_succ]
  refine wpAnyH_take (i := 1) (oi := { dst := some 44, op := Op.load 24 (Operand.tmp 43), type := 24, pos := "object.go:29", after := #[{ on := 0, ground := Ground.data }], guard := none }) (v := ?_) rfl (by kernel_rfl) (by kernel_rfl) (by kernel_rfl) (fun _ _ _ h => h) (Or.inl ⟨rfl, ?_⟩) hHeld ?_
  rotate_left
  · (intro wz hSw; have o2 := (hO.out.below hSw).cell 2 (.slice C k e) rfl; go_simp; try with_reducible rfl)
  try simp only [Act.put, List.setIfInBounds_toArray, List.set_cons_zero, List.set_cons_succ]
  refine wpAnyH_ready (rs := [2]) (by kernel_rfl) (by simp) ?_
  refine AllReadyH.cons (o := { dst := some 45, op := Op.call { callee := Callee.value (Operand.func 44), args := #[], argTypes := #[] }, type := 89, pos := "object.go:29", after := #[], guard := none }) rfl (fun K hK => ?_) AllReadyH.nil
  go_simp
  go_at_call 44
  refine (Ob.wrongInTurn_any _).mono ?_
  rintro e w6 ⟨rfl, rfl⟩
  have hG := Has.new #[.string Ob.e0] 9 w4d
  have hE := ((Kept.refl w4d).alloc #[.string Ob.e0] 9).below
  have hb := Lib.hid hE
  generalize w4d.alloc (.cells #[.string Ob.e0] 9) = w6 at *
  clear hHeld
  refine hK.out _ _ hE (fun hHeld => ?_)
  clear hK K hE
  try simp only [Act.put, List.setIfInBounds_toArray, List.set_cons_zero, List.set_cons_succ]
  refine wpAnyH_ready (rs := [3]) (by kernel_rfl) (by simp) ?_
  refine AllReadyH.cons (o := { dst := some 46, op := Op.call { callee := Callee.value (Operand.func 43), args := #[Operand.tmp 44, Operand.tmp 45], argTypes := #[24, 89] }, type := 4, pos := "object.go:29", after := #[{ on := 1, ground := Ground.data }, { on := 2, ground := Ground.data }, { on := 2, ground := Ground.chain }], guard := none }) rfl (fun K hK => ?_) AllReadyH.nil
  go_simp
  go_at_call 43
  refine (Ob.asks_names hY.out hsz hb.out hG (Nat.le_refl _)).mono ?_
  rintro e w7 ⟨rfl, hE⟩
  clear hHeld
  refine hK.out _ _ hE (fun hHeld => ?_)
  clear hK K
  replace hB := Lib.hid (hB.out.trans (hE.mono hB.out.size))
  replace hO := Lib.hid (hO.out.below hE)
  replace hF := Lib.hid (hF.out.below hE)
  replace hY := Lib.hid (hY.out.below hE)
  refine wpAnyH_now _ _ _ _ hE (fun hHeld => ?_)
  clear hE
  try simp only [Act.put, List.setIfInBounds_toArray, List.set_cons_zero, List.set_cons_succ]
  refine wpAnyH_take (i := 4) (oi := { dst := some 42, op := Op.assign (Operand.tmp 46), type := 4, pos := "object.go:29", after := #[{ on := 3, ground := Ground.data }, { on := 3, ground := Ground.chain }], guard := none }) (v := ?_) rfl (by kernel_rfl) (by kernel_rfl) (by kernel_rfl) (fun _ _ _ h => h) (Or.inl ⟨rfl, ?_⟩) hHeld ?_
  rotate_left
  · (intro wz hSw; go_simp; try with_reducible rfl)
  try simp only [Act.put, List.setIfInBounds_toArray, List.set_cons_zero, List.set_cons_succ]
  refine wpAnyH_done (by kernel_rfl) ?_ _
  replace hO := hO.out
  replace hF := hF.out
  by_cases c8 : Ob.Names ys
  case neg =>
    have R := Lib.hid (hq.out.trans (Ob.may_9 hbig c5.out c7.out c8))
    rw [decide_eq_false c8]
    clear hO hF hq
    go_wp2
    go_ret
    exact ⟨Ob.ret R.out.symm, hB.out⟩
  rw [decide_eq_true c8]
  replace c8 := Lib.hid c8
  have o2 := hO.cell 2 (.slice C k e) rfl
  go_wp2_with (fail)
  refine (Ob.asks_places hY.out hF).mono ?_; rintro r w8 ⟨rfl, hE⟩
  replace hB := Lib.hid (hB.out.trans (hE.mono hB.out.size))
  clear hE hO hF hY o2
  by_cases c9 : Ob.Places (4 * (n : Int)) ys
  · have R := Lib.hid (hq.out.trans (Ob.may_0 hbig c5.out c7.out c8.out (by rw [hlw]; exact c9)))
    rw [decide_eq_true c9]
    clear hq
    go_wp2
    go_ret
    exact ⟨Ob.ret R.out.symm, hB.out⟩
  · have R := Lib.hid (hq.out.trans (Ob.may_88 hbig c5.out c7.out c8.out (by rw [hlw]; exact c9)))
    rw [decide_eq_false c9]
    clear hq
    go_wp2
    go_ret
    exact ⟨Ob.ret R.out.symm, hB.out⟩
end Go.Proofs.Ytpfgmfiegnkocaa
