/-
  The law MachineLinks.
-/
import Derived.Test.YtlmddkciamdldaaQe
namespace Go.Proofs.Ytlmddkciamdldaa
open Go.RowKit
set_option linter.unusedVariables false
set_option linter.unusedSimpArgs false
set_option maxRecDepth 100000
theorem enc_may (k op a b c i : Int) (u : Bool) (h : I.May ⟨k, op, a, b, c, i, u⟩) (w : World) :
    Calls Try.prog 9 #[.agg #[.int .i64 k, .int .i64 op, .int .i64 a, .int .i64 b, .int .i64 c, .int .i64 i, .bool u]] w fun e w' => e = .returned (.tuple #[.int .u32 (I.word ⟨k, op, a, b, c, i, u⟩), .int .i64 0]) ∧ Kept w w' := enc_to k op a b c i _ u h rfl w
theorem A.eql (s : A.Regs) (W : World) : (binOp .eql 27 (.agg (A.cells s)) (.agg (A.cells s))).run Try.prog W = .ok (.bool true) W := by
  rw [A.bin_eq]; simp [Sem.run_bind, A.eq_regs]
theorem A.loadAt {s : A.Regs} {g : Nat} {W : World} (h : Has g (A.cells s) 27 W) : (Instr.loadAt 27 (.pointer (some ⟨g, 0, none⟩))).run Try.prog W = .ok (.agg (A.cells s)) W := by
  have := run_loadAt_mid (P := Try.prog) W g 0 27 (A.cells s).toList _ (fun j v hj => by rw [Nat.zero_add]; exact h.cell j v (by simpa using hj)) Try.underlying27 rfl (by rw [Array.length_toList]; exact A.info25 s)
  simpa using this
namespace X
theorem taken7 (s : A.Regs) : A.taken s 7 = true := by unfold A.taken; rw [if_pos (by omega)]; rfl
theorem taken15 (s : A.Regs) : A.taken s 15 = false := by unfold A.taken; rw [if_neg (by omega), if_pos (by omega)]; rfl
/-- a branch's step -/
theorem step_br (x : St) (k op c i : Int) (u : Bool) (h0 : x.st = 0) (ht : M.wt x.ws x.pc = 0) (hw : M.word x.ws x.pc = I.word ⟨k, op, 0, 0, c, i, u⟩) (hm : I.May ⟨k, op, 0, 0, c, i, u⟩) (hk : k = 6 ∨ k = 7) :
    step x = ⟨x.ws, brS x.s (beh x) op u, brP x.s (beh x) k op c i, 0, x.ins, x.outs⟩ := by
  have k5 : ¬ k = 5 := by omega
  rw [step_ins x _ h0 ht hw hm]
  have e1 : doT x ⟨k, op, 0, 0, c, i, u⟩ = 0 := by unfold doT; rw [if_neg k5, if_pos hk]
  have e2 : doS x ⟨k, op, 0, 0, c, i, u⟩ = brS x.s (beh x) op u := by unfold doS; rw [if_neg k5, if_pos hk]
  have e3 : doP x ⟨k, op, 0, 0, c, i, u⟩ = brP x.s (beh x) k op c i := by unfold doP; rw [if_pos hk]
  have e4 : doX x ⟨k, op, 0, 0, c, i, u⟩ = x := by unfold doX; rw [if_neg k5]
  rw [e1, e2, e3, e4, if_pos (Or.inl rfl)]
end X
set_option maxHeartbeats 1000000 in
theorem walk_Links_at (s : A.Regs) (cond far c : Int) (f : Nat) (wt wb : Int) (hs : A.Ok s) (q0 : 0 ≤ cond) (q1 : cond < 256) (r0 : 0 ≤ far) (r1 : far < 256) (hc : cond % 16 = c) (hf : far % 8 = f) (f8 : f < 8) (c0 : 0 ≤ c) (c16 : c < 16)
    (t0 : 0 ≤ wt) (t1 : wt < 4294967296) (b0 : 0 ≤ wb) (b1 : wb < 4294967296) (ws : List Int) (x1 x2 : X.St) (w : World)
    (C1 : Hid (∀ w, Calls Try.prog 9 #[.agg #[.int .i64 7, .int .i64 c, .int .i64 0, .int .i64 0, .int .i64 0, .int .i64 (1 + (f : Int)), .bool true]] w fun e w' => e = .returned (.tuple #[.int .u32 wt, .int .i64 0]) ∧ Kept w w'))
    (C2 : Hid (∀ w, Calls Try.prog 9 #[.agg #[.int .i64 6, .int .i64 7, .int .i64 0, .int .i64 0, .int .i64 15, .int .i64 0, .bool false]] w fun e w' => e = .returned (.tuple #[.int .u32 wb, .int .i64 0]) ∧ Kept w w'))
    (hws : M.placed (M.placed (List.replicate 12 0) 0 [wt]) (2 + f) [wb] = ws)
    (s1 : X.step ⟨ws, s, 0, 0, [], []⟩ = x1) (s2 : X.step x1 = x2)
    (hx : (x1 = ⟨ws, A.set s 15 4, 4 + 4 * (1 + (f : Int)), 0, [], []⟩ ∧ x2.st = 0 ∧ x2.pc = 4 ∧ ¬ c = 15) ∨ (x1 = ⟨ws, s, 4, 0, [], []⟩ ∧ ¬ c = 7)) :
    Calls Try.prog 6 #[.agg (A.cells s), .int .u8 cond, .int .u8 far] w fun e w' => e = .returned (.bool true) ∧ Below w.heap.size w w' := by
  go_enter Try.func6, Try.ntmps6
  go_wp2_with (fail)
  refine (shown_any _).mono ?_; rintro e w1 ⟨rfl, hT1⟩
  have hA := (Kept.refl w).alloc (A.cells s) 27
  have hb1 := Lib.hid (show Below w.heap.size w w1 from hA.below.trans (hT1.below w.heap.size hA.size fun _ h => h.elim))
  have hR1 := Lib.hid (show Has w.heap.size (A.cells s) 27 w1 from (hT1.block _ (Has.new _ _ w).lt id).trans (Has.new _ _ w))
  clear hA hT1
  go_wp2_with (fail)
  rw [hc, hf]
  refine (C1.out _).mono ?_; rintro e w2 ⟨rfl, hK2⟩
  go_wp2_with (fail)
  refine (C2.out _).mono ?_; rintro e w3 ⟨rfl, hK3⟩
  have hb3 := Lib.hid (below_kept hb1.out (hK2.trans hK3) hb1.out.size)
  have hR3 := Lib.hid (hR1.out.kept (hK2.trans hK3))
  clear hb1 hR1 hK2 hK3 C1 C2
  go_wp2_with (fail)
  refine (new_live 12 (by omega) (Ws.empty w3) (by omega)).mono ?_; rintro e w4 ⟨B, rfl, hL⟩
  have hL1 := Lib.hid (hL.kept ((Kept.refl w4).alloc #[.int .u32 wt] 24))
  have hW1 := Lib.hid (Ws.sole (Has.new #[.int .u32 wt] 24 w4) t0 t1)
  clear hL
  go_wp2_with (fail)
  refine (place_live hL1.out 0 _ 1 1 [wt] hW1.out (by simp)).mono ?_; rintro e w5 ⟨rfl, hL5⟩
  have hL2 := Lib.hid (hL5.kept ((Kept.refl w5).alloc #[.int .u32 wb] 24))
  have hW2 := Lib.hid (Ws.sole (Has.new #[.int .u32 wb] 24 w5) b0 b1)
  clear hL5 hL1 hW1
  go_wp2_with (fail)
  have hlen : (M.placed (List.replicate 12 0) 0 [wt]).length = 12 := by rw [M.placed_len _ _ _ (by simp)]; simp
  have C := place_live hL2.out (2 + f) _ 1 1 [wb] hW2.out (by show 2 + f + 1 ≤ (M.placed (List.replicate 12 0) 0 [wt]).length; omega)
  rw [show (((2 + f : Nat)) : Int) = 1 + (1 + (f : Int)) by omega] at C
  refine C.mono ?_; rintro e w6 ⟨rfl, hL6⟩
  replace hL6 : Live w3 B ⟨M.placed (M.placed (List.replicate 12 0) 0 [wt]) (2 + f) [wb], A.none', 0, 0, [], []⟩ w6 := hL6
  rw [hws] at hL6
  have hR6 := Lib.hid (show Has w.heap.size (A.cells s) 27 w6 from (hL6.below.block _ hR3.out.lt).trans hR3.out)
  replace hL6 := Lib.hid hL6
  clear C hL2 hW2 hlen
  go_wp2_with (with_reducible refine load_has rfl 27 _ rfl _ rfl hR6.out Try.underlying27 rfl (A.info25 _) ?_)
  refine (start_live hL6.out 0 s hs (by omega) (by omega)).mono ?_; rintro e w7 ⟨rfl, hL7⟩
  replace hL7 := Lib.hid hL7
  clear hL6 hR6
  go_wp2_with (fail)
  refine (step_live hL7.out (by simp)).mono ?_; rintro e w8 ⟨rfl, hL8⟩
  change Live w3 B (X.step ⟨ws, s, 0, 0, [], []⟩) w8 at hL8
  rw [s1] at hL8
  change (match Ending.returned (Value.int IntKind.i64 (X.step ⟨ws, s, 0, 0, [], []⟩).st), w8 with | _, _ => _)
  rw [s1]
  clear hL7
  rcases hx with ⟨e1, e2, e3, e4⟩ | ⟨e1, e4⟩
  · subst e1
    have h15 : (A.set s 15 4).r 15 = 4 := rfl
    generalize A.set s 15 4 = S' at *
    replace hL8 := Lib.hid hL8
    go_wp2_with (fail)
    refine (regs_live hL8.out).mono ?_; rintro e w9 ⟨rfl, hK9⟩
    replace hL8 := Lib.hid (hL8.out.kept (hK9.trans ((Kept.refl w9).alloc (A.cells S') 27)))
    have hc15 := (Has.new (A.cells S') 27 w9).cell 15 _ (A.cell_r S' 15 (by omega))
    rw [h15] at hc15
    clear hK9
    go_wp2_with (with_reducible refine store_last rfl 27 _ _ rfl _ _ rfl rfl rfl (A.info25 _) (by kernel_rfl) (A.one_cells _) ?_)
    generalize w9.alloc (Obj.cells (A.cells S') 27) = wa at *
    refine (pc_live hL8.out).mono ?_; rintro e wb' ⟨rfl, rfl⟩
    go_wp2_with (fail)
    refine (step_live hL8.out (by simp)).mono ?_; rintro e wc ⟨rfl, hLc⟩
    rw [s2] at hLc ⊢
    rw [e2]
    have hbc := Lib.hid (hb3.out.trans (hLc.below.mono hb3.out.size))
    replace hLc := Lib.hid hLc
    clear hL8 hR3 hb3 hc15
    have e5 : (c == 15) = false := by simpa using e4
    have e6 : (c != 15) = true := by simpa using e4
    go_wp2_with (fail)
    refine (pc_live hLc.out).mono ?_; rintro e wd ⟨rfl, rfl⟩
    rw [e3]
    go_wp2
    go_ret
    exact ⟨rfl, hbc.out⟩
  · subst e1
    have n1 : ¬ (4 : Int) = 4 + 4 * (1 + (f : Int)) := by omega
    have n2 : ((4 : Int) == 4 + 4 * (1 + (f : Int))) = false := by simpa using n1
    have e5 : (c == 7) = false := by simpa using e4
    have e6 : (c != 7) = true := by simpa using e4
    have hR8 := (hL8.below.block _ hR3.out.lt).trans hR3.out
    replace hL8 := Lib.hid hL8
    go_wp2_with (fail)
    refine (regs_live hL8.out).mono ?_; rintro e w9 ⟨rfl, hK9⟩
    have hK := hK9.trans ((Kept.refl w9).alloc (A.cells s) 27)
    replace hL8 := Lib.hid (hL8.out.kept hK)
    have l1 := Lib.hid (Has.kept (B := w.heap.size) (cs := A.cells s) (t := 27) hR8 hK)
    have l2 := Lib.hid (Has.new (A.cells s) 27 w9)
    have hq := A.eql s
    clear hK9 hK hR8
    go_wp2_with (with_reducible refine store_last rfl 27 _ _ rfl _ _ rfl rfl rfl (A.info25 _) (by kernel_rfl) (A.one_cells _) ?_)
    generalize w9.alloc (Obj.cells (A.cells s) 27) = wa at *
    refine (pc_live hL8.out).mono ?_; rintro e wb' ⟨rfl, rfl⟩
    go_wp2_with (fail)
    refine (pc_live hL8.out).mono ?_; rintro e wb' ⟨rfl, rfl⟩
    have hbc := Lib.hid (hb3.out.trans (hL8.out.below.mono hb3.out.size))
    go_wp2_with (first
      | (refine want_exec (o := ⟨some 114, _, _, _, _, _⟩) rfl (exec_load_has 27 (.tmp 17) rfl _ rfl l2.out Try.underlying27 rfl (A.info25 _)) ?_)
      | (refine want_exec (o := ⟨some 115, _, _, _, _, _⟩) rfl (exec_load_has 27 (.tmp 3) rfl _ rfl l1.out Try.underlying27 rfl (A.info25 _)) ?_))
    go_ret
    exact ⟨rfl, hbc.out⟩
theorem walk_Links (s : A.Regs) (cond far : Int) (hs : A.Ok s) (q0 : 0 ≤ cond) (q1 : cond < 256) (r0 : 0 ≤ far) (r1 : far < 256) (w : World) :
    Calls Try.prog 6 #[.agg (A.cells s), .int .u8 cond, .int .u8 far] w fun e w' => e = .returned (.bool true) ∧ Below w.heap.size w w' := by
  obtain ⟨f, hf⟩ : ∃ f : Nat, far % 8 = f := ⟨(far % 8).toNat, by omega⟩
  have f8 : f < 8 := by omega
  obtain ⟨c, hc⟩ : ∃ c, cond % 16 = c := ⟨_, rfl⟩
  have c0 : 0 ≤ c ∧ c < 16 := by omega
  have m1 : I.May ⟨7, c, 0, 0, 0, 1 + (f : Int), true⟩ := by unfold I.May; simp; omega
  have m2 : I.May ⟨6, 7, 0, 0, 15, 0, false⟩ := by unfold I.May; simp
  have hl1 : (M.placed (List.replicate 12 0) 0 [I.word ⟨7, c, 0, 0, 0, 1 + (f : Int), true⟩]).length = 12 := by rw [M.placed_len _ _ _ (by simp)]; simp
  refine walk_Links_at s cond far c f _ _ hs q0 q1 r0 r1 hc hf f8 c0.1 c0.2 (I.word_lo _ m1) (I.word_hi _ m1) (I.word_lo _ m2) (I.word_hi _ m2) _ _ _ w (Lib.hid fun w => enc_may _ _ _ _ _ _ _ m1 w) (Lib.hid fun w => enc_may _ _ _ _ _ _ _ m2 w) rfl rfl rfl ?_
  generalize hws : M.placed (M.placed (List.replicate 12 0) 0 [I.word ⟨7, c, 0, 0, 0, 1 + (f : Int), true⟩]) (2 + f) [I.word ⟨6, 7, 0, 0, 15, 0, false⟩] = ws
  have g1 : ws[0]? = some (I.word ⟨7, c, 0, 0, 0, 1 + (f : Int), true⟩) := by
    rw [← hws, M.placed_out _ _ _ _ (by rw [hl1]; simp; omega) (by simp)]
    exact M.placed_in _ _ _ _ (by simp) (by omega) (by simp)
  have g2 : ws[2 + f]? = some (I.word ⟨6, 7, 0, 0, 15, 0, false⟩) := by
    rw [← hws, M.placed_in _ _ _ _ (by rw [hl1]; simp; omega) (by omega) (by simp)]
    simp
  have p1 := X.at_word ws 0 _ 0 g1 rfl
  have st1 := X.step_br ⟨ws, s, 0, 0, [], []⟩ 7 c 0 (1 + (f : Int)) true rfl p1.1 p1.2 m1 (Or.inr rfl)
  have b1 : X.beh ⟨ws, s, 0, 0, [], []⟩ = 4 := rfl
  rw [b1] at st1
  by_cases ht : A.taken s c = true
  · left
    have eS : X.brS s 4 c true = A.set s 15 4 := by unfold X.brS; rw [if_pos ⟨ht, rfl⟩]
    have eP : X.brP s 4 7 c 0 (1 + (f : Int)) = 4 + 4 * (1 + (f : Int)) := by unfold X.brP; rw [if_pos ht, if_neg (by omega)]; omega
    have st1' : X.step ⟨ws, s, 0, 0, [], []⟩ = ⟨ws, A.set s 15 4, 4 + 4 * (1 + (f : Int)), 0, [], []⟩ := by rw [st1]; simp only [eS, eP]
    have p2 := X.at_word ws (2 + f) _ (4 + 4 * (1 + (f : Int))) g2 (by omega)
    have st2 := X.step_br ⟨ws, A.set s 15 4, 4 + 4 * (1 + (f : Int)), 0, [], []⟩ 6 7 15 0 false rfl p2.1 p2.2 m2 (Or.inl rfl)
    have eP2 : X.brP (A.set s 15 4) (X.beh ⟨ws, A.set s 15 4, 4 + 4 * (1 + (f : Int)), 0, [], []⟩) 6 7 15 0 = 4 := by unfold X.brP; rw [if_pos (X.taken7 _), if_pos rfl]; rfl
    rw [st1']
    refine ⟨rfl, ?_, ?_, ?_⟩
    · rw [st2]
    · rw [st2]; exact eP2
    · intro e; subst e; rw [X.taken15] at ht; cases ht
  · right
    have eS : X.brS s 4 c true = s := by unfold X.brS; rw [if_neg (fun h => ht h.1)]
    have eP : X.brP s 4 7 c 0 (1 + (f : Int)) = 4 := by unfold X.brP; rw [if_neg ht]
    refine ⟨by rw [st1]; simp only [eS, eP], ?_⟩
    intro e; subst e; exact ht (X.taken7 s)
end Go.Proofs.Ytlmddkciamdldaa
