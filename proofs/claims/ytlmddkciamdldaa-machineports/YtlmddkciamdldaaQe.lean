import Derived.Below
import Derived.Carry
import Derived.ChangeKeysEq
import Derived.ChangeSame
import Derived.Deep.Cut
import Derived.Laws.Bits128
import Derived.OpenShut
import Derived.RowKit
import Derived.WideShapes
import Derived.Test.YtlmddkciamdldaaQd
/-
  The contracts of package machine: next, Step, Run; what it tells.
-/
namespace Go.Proofs.Ytlmddkciamdldaa
open Go.RowKit
set_option linter.unusedVariables false
set_option linter.unusedSimpArgs false
set_option maxRecDepth 100000
theorem Mac.rngs {F : Nat → Prop} {B : Nat} {x : X.St} {w : World} (h : Mac F B x w) : (∀ y ∈ x.ws, 0 ≤ y ∧ y < 4294967296) ∧ (∀ y ∈ x.ins, 0 ≤ y ∧ y < 4294967296) ∧ (∀ y ∈ x.outs, 0 ≤ y ∧ y < 4294967296) ∧ x.ws.length ≤ 4096 := by
  obtain ⟨_, _, _, _, _, _, h⟩ := h; exact ⟨h.mem.rng, h.ins.rng, h.rng, h.mem.len⟩
theorem Mac.word_any {F : Nat → Prop} {B : Nat} {x : X.St} {w : World} (h : Mac F B x w) (a : Int) (h0 : 0 ≤ a) (h1 : a < 4294967296) :
    Calls Try.prog 37 #[.pointer (some ⟨B, 0, none⟩), .int .u32 a] w fun e w' => e = .returned (.tuple #[.int .u32 (M.word x.ws a), .int .i64 (M.wt x.ws a)]) ∧ w = w' := by
  obtain ⟨_, _, _, _, _, _, h⟩ := h; exact M.word_any h.mem a h0 h1
/-- the registers and the place are set -/
theorem Mac.put {F : Nat → Prop} {B : Nat} {x : X.St} {w : World} (h : Mac F B x w) (s : A.Regs) (pc : Int) (ok : A.Ok s) (p0 : 0 ≤ pc) (p1 : pc < 4294967296) :
    Mac F B ⟨x.ws, s, pc, x.st, x.ins, x.outs⟩ ((w.setCells B 4099 (A.cells s).toList).setCell ⟨B, 4120, none⟩ (.int .u32 pc)) ∧ But B w ((w.setCells B 4099 (A.cells s).toList).setCell ⟨B, 4120, none⟩ (.int .u32 pc)) := by
  obtain ⟨ai, ni, ci, ao, no, co, h⟩ := h
  have hB : But B w ((w.setCells B 4099 (A.cells s).toList).setCell ⟨B, 4120, none⟩ (.int .u32 pc)) := (but_setCells _ _ _ _ (But.refl B w)).setCell _ _
  have h1 := h.mem.setN (A.cells s).toList 2
  rw [X.tl_regs] at h1
  have h2 := h1.set1 23 (.int .u32 pc)
  rw [X.tl_pc] at h2
  exact ⟨⟨ai, ni, ci, ao, no, co, h.own hB _ _ _ _ h2 ok p0 p1⟩, hB⟩
theorem Mac.there {F : Nat → Prop} {B : Nat} {x : X.St} {w : World} (h : Mac F B x w) : w.there B 4099 21 := by
  obtain ⟨ai, ni, ci, ao, no, co, h⟩ := h
  exact h.mem.there 4099 21 (by rw [X.tl_len]; omega)
theorem Mac.setSt {F : Nat → Prop} {B : Nat} {x : X.St} {w : World} (h : Mac F B x w) (t : Int) : Mac F B ⟨x.ws, x.s, x.pc, t, x.ins, x.outs⟩ (w.setCell ⟨B, 4121, none⟩ (.int .i64 t)) ∧ But B w (w.setCell ⟨B, 4121, none⟩ (.int .i64 t)) := by
  obtain ⟨ai, ni, ci, ao, no, co, h⟩ := h
  have hB : But B w (w.setCell ⟨B, 4121, none⟩ (.int .i64 t)) := (But.refl B w).setCell _ _
  have h2 := h.mem.set1 24 (.int .i64 t)
  rw [X.tl_st] at h2
  exact ⟨⟨ai, ni, ci, ao, no, co, h.own hB _ _ _ _ h2 h.ok h.pc0 h.pc1⟩, hB⟩
/-- the place of the instruction traps -/
theorem next_trap {F : Nat → Prop} {B : Nat} {x : X.St} {w : World} (h : Mac F B x w) (v t : Int) (ht : ¬ t = 0)
    (L : ∀ w, Mac F B x w → Calls Try.prog 37 #[.pointer (some ⟨B, 0, none⟩), .int .u32 x.pc] w fun e w' => e = .returned (.tuple #[.int .u32 v, .int .i64 t]) ∧ w = w') :
    Calls Try.prog 27 #[.pointer (some ⟨B, 0, none⟩)] w fun e w' => e = .returned (.int .i64 t) ∧ Kept w w' := by
  have cp := h.pc
  have C := L w h
  have L' := fun n => L _ (h.kept ((Kept.refl w).drewN n))
  have t2 : (t == 0) = false := by simpa using ht
  have t3 : (t != 0) = true := by simpa using ht
  go_enter Try.func27, Try.ntmps27
  go_upto_region 1 with (fail)
  go_quiet ((go_at_call 37; exact Calls.quiet_of_same ((L' _).mono fun _ _ h => ⟨h.1, h.2.symm⟩)))
  go_wp2
  go_ret
  exact ⟨rfl, (Kept.refl w).drewN nq⟩
/-- no instruction -/
theorem next_ill {F : Nat → Prop} {B : Nat} {x : X.St} {w : World} (h : Mac F B x w) (v k op a b c i : Int) (u : Bool)
    (L : ∀ w, Mac F B x w → Calls Try.prog 37 #[.pointer (some ⟨B, 0, none⟩), .int .u32 x.pc] w fun e w' => e = .returned (.tuple #[.int .u32 v, .int .i64 0]) ∧ w = w')
    (D : ∀ w, Calls Try.prog 38 #[.int .u32 v] w fun e w' => e = .returned (.tuple #[.agg #[.int .i64 k, .int .i64 op, .int .i64 a, .int .i64 b, .int .i64 c, .int .i64 i, .bool u], .bool false]) ∧ Kept w w') :
    Calls Try.prog 27 #[.pointer (some ⟨B, 0, none⟩)] w fun e w' => e = .returned (.int .i64 2) ∧ Kept w w' := by
  have cp := h.pc
  have L' := fun n => L _ (h.kept ((Kept.refl w).drewN n))
  go_enter Try.func27, Try.ntmps27
  go_upto_region 1 with (fail)
  go_quiet ((go_at_call 37; exact Calls.quiet_of_same ((L' _).mono fun _ _ h => ⟨h.1, h.2.symm⟩)))
  go_wp2_with (fail)
  refine (D _).mono ?_; rintro e w2 ⟨rfl, hK2⟩
  have hK := Lib.hid (((Kept.refl w).drewN nq).trans hK2)
  clear hK2 cp L L' D h
  go_wp2
  go_ret
  exact ⟨rfl, hK.out.alloc _ _⟩
theorem next_do {F : Nat → Prop} {B : Nat} {x x' : X.St} {w : World} (h : Mac F B x w) (v k op a b c i y t : Int) (S' : A.Regs) (u : Bool) (hx : x'.s = x.s ∧ x'.pc = x.pc ∧ x'.st = x.st) (hS : A.Ok S') (y0 : 0 ≤ y) (y1 : y < 4294967296)
    (L : ∀ w, Mac F B x w → Calls Try.prog 37 #[.pointer (some ⟨B, 0, none⟩), .int .u32 x.pc] w fun e w' => e = .returned (.tuple #[.int .u32 v, .int .i64 0]) ∧ w = w')
    (D : ∀ w, Calls Try.prog 38 #[.int .u32 v] w fun e w' => e = .returned (.tuple #[.agg #[.int .i64 k, .int .i64 op, .int .i64 a, .int .i64 b, .int .i64 c, .int .i64 i, .bool u], .bool true]) ∧ Kept w w')
    (O : ∀ w, Mac F B x w → Calls Try.prog 39 #[.pointer (some ⟨B, 0, none⟩), .agg #[.int .i64 k, .int .i64 op, .int .i64 a, .int .i64 b, .int .i64 c, .int .i64 i, .bool u]] w fun e w' => e = .returned (.tuple #[.agg (A.cells S'), .int .u32 y, .int .i64 t]) ∧ ∃ F', Mac F' B x' w' ∧ Turn F w w' ∧ ∀ k, F' k → F k ∨ w.heap.size ≤ k) :
    Calls Try.prog 27 #[.pointer (some ⟨B, 0, none⟩)] w fun e w' => e = .returned (.int .i64 t) ∧ ∃ F', Mac F' B (if t = 0 ∨ t = 1 then ⟨x'.ws, S', y, x.st, x'.ins, x'.outs⟩ else x') w' ∧ Turn F w w' ∧ ∀ k, F' k → F k ∨ w.heap.size ≤ k := by
  have cp := h.pc
  have L' := fun n => L _ (h.kept ((Kept.refl w).drewN n))
  have hh := Lib.hid h
  generalize hX : (if t = 0 ∨ t = 1 then (⟨x'.ws, S', y, x.st, x'.ins, x'.outs⟩ : X.St) else x') = x''
  go_enter Try.func27, Try.ntmps27
  go_upto_region 1 with (fail)
  go_quiet ((go_at_call 37; exact Calls.quiet_of_same ((L' _).mono fun _ _ h => ⟨h.1, h.2.symm⟩)))
  go_wp2_with (fail)
  refine (D _).mono ?_; rintro e w2 ⟨rfl, hK2⟩
  have hK := Lib.hid ((((Kept.refl w).drewN nq).trans hK2).alloc #[.int .i64 k, .int .i64 op, .int .i64 a, .int .i64 b, .int .i64 c, .int .i64 i, .bool u] 23)
  have hI := Lib.hid (Has.new #[.int .i64 k, .int .i64 op, .int .i64 a, .int .i64 b, .int .i64 c, .int .i64 i, .bool u] 23 w2)
  have hM := Lib.hid (hh.out.kept hK.out)
  clear hK2 cp L L' D h
  go_wp2_with (with_reducible refine load_has rfl 23 _ rfl _ rfl hI.out Try.underlying23 rfl (by kernel_rfl) ?_)
  refine (O _ hM.out).mono ?_; rintro e w3 ⟨rfl, F', p1, p2, p3⟩
  have hA := (Kept.refl w3).alloc (A.cells S') 27
  have hT := Lib.hid (((hK.out.turn F).trans p2).trans (hA.turn F))
  have hP := Lib.hid (p1.kept hA)
  have hN := Lib.hid (Has.new (A.cells S') 27 w3)
  have hF : ∀ k, F' k → F k ∨ w.heap.size ≤ k := fun k hk => by
    rcases p3 k hk with h1 | h1
    · exact Or.inl h1
    · exact Or.inr (Nat.le_trans hK.out.size h1)
  have hth := hP.out.there
  have hfr := hP.out.free 4120
  clear O hM hI hK p1 p2 p3 hA hh
  by_cases t01 : t = 0 ∨ t = 1
  · have hput := hP.out.put S' y hS y0 y1
    rw [hx.2.2] at hput
    rw [if_pos t01] at hX
    subst hX
    have hput := Lib.hid hput
    have hcp : ((w3.alloc (Obj.cells (A.cells S') 27)).setCells B 4099 (A.cells S').toList).cell? ⟨B, 4120, none⟩ = some (.int .u32 x'.pc) := by
      obtain ⟨ai, ni, ci, ao, no, co, hp⟩ := hP.out
      have h1 := hp.mem.setN (A.cells S').toList 2
      rw [X.tl_regs] at h1
      exact h1.tail 23 _ rfl
    have hff : ((w3.alloc (Obj.cells (A.cells S') 27)).setCells B 4099 (A.cells S').toList).frozen? ⟨B, 4120, none⟩ = false := by
      obtain ⟨ai, ni, ci, ao, no, co, hp⟩ := hP.out
      have h1 := hp.mem.setN (A.cells S').toList 2
      exact h1.free 4120
    have hFB := hP.out.inB
    rcases t01 with rfl | rfl
    all_goals
      go_upto_region 10 with (first
        | (with_reducible refine store_last rfl 27 _ _ rfl _ _ rfl rfl rfl (A.info25 _) (by kernel_rfl) (A.one_cells _) ?_))
      go_wp2_with (first
        | (with_reducible refine load_has rfl 27 _ rfl _ rfl hN.out Try.underlying27 rfl (A.info25 _) ?_)
        | (with_reducible refine wpList_store_mid rfl 27 _ _ rfl _ _ (A.cells S') rfl rfl hth (A.info25 _) (A.one_cells _) ?_; generalize World.setCells _ _ _ _ = ws5 at *))
      clear hcp hff
      generalize World.setCell ws5 _ _ = wf at *
      have hq := hT.out.then (hput.out.2.turn (F := F') hFB) hF
      go_ret
      exact ⟨rfl, F', hput.out.1, hq, hF⟩
  · rw [if_neg t01] at hX
    subst hX
    have t0 : ¬ t = 0 := fun e => t01 (Or.inl e)
    have t1 : ¬ t = 1 := fun e => t01 (Or.inr e)
    have e1 : (t == 0) = false := by simpa using t0
    have e2 : (t != 0) = true := by simpa using t0
    have e3 : (t == 1) = false := by simpa using t1
    have e4 : (t != 1) = true := by simpa using t1
    go_wp2_with (first
        | (with_reducible refine store_last rfl 27 _ _ rfl _ _ rfl rfl rfl (A.info25 _) (by kernel_rfl) (A.one_cells _) ?_))
    go_ret
    exact ⟨rfl, F', hP.out, hT.out, hF⟩
end Go.Proofs.Ytlmddkciamdldaa

/-
  The contracts of package machine: Step, Run; what it tells.
-/
namespace Go.Proofs.Ytlmddkciamdldaa
open Go.RowKit
set_option linter.unusedVariables false
set_option linter.unusedSimpArgs false
set_option maxRecDepth 100000
theorem I.dec_may (v : Int) (h : I.is v = true) : I.May (I.dec v) := by
  have e : I.dec v = I.guess v := by unfold I.dec; rw [if_pos h]
  rw [e]
  unfold I.is at h
  rw [Bool.and_eq_true] at h
  exact of_decide_eq_true h.1
theorem next_any {F : Nat → Prop} {B : Nat} {x : X.St} {w : World} (h : Mac F B x w) (hn : x.outs.length < 1000000) :
    Calls Try.prog 27 #[.pointer (some ⟨B, 0, none⟩)] w fun e w' => e = .returned (.int .i64 (X.nextT x)) ∧ ∃ F', Mac F' B (X.nextX x) w' ∧ Turn F w w' ∧ ∀ k, F' k → F k ∨ w.heap.size ≤ k := by
  have hb := h.bounds
  have hr := h.rngs
  have hW := X.word_ok x.ws x.pc hr.1
  have L := fun w' (h' : Mac F B x w') => h'.word_any x.pc hb.2.1 hb.2.2
  by_cases ht : M.wt x.ws x.pc = 0
  · rw [ht] at L
    by_cases hi : I.is (M.word x.ws x.pc) = true
    · have e1 : X.nextT x = X.doT x (I.dec (M.word x.ws x.pc)) := by unfold X.nextT; rw [if_pos ht, if_pos hi]
      have e2 : X.nextX x = if X.doT x (I.dec (M.word x.ws x.pc)) = 0 ∨ X.doT x (I.dec (M.word x.ws x.pc)) = 1 then ⟨(X.doX x (I.dec (M.word x.ws x.pc))).ws, X.doS x (I.dec (M.word x.ws x.pc)), X.doP x (I.dec (M.word x.ws x.pc)), x.st, (X.doX x (I.dec (M.word x.ws x.pc))).ins, (X.doX x (I.dec (M.word x.ws x.pc))).outs⟩ else X.doX x (I.dec (M.word x.ws x.pc)) := by unfold X.nextX; rw [if_pos ⟨ht, hi⟩]
      rw [e1, e2]
      have hm := I.dec_may _ hi
      have D := dec_any (M.word x.ws x.pc) hW
      rw [hi] at D
      generalize I.dec (M.word x.ws x.pc) = j at *
      obtain ⟨k, op, a, b, c, i, u⟩ := j
      have hp := X.doP_ok x ⟨k, op, a, b, c, i, u⟩ hb.1 (by have := hm.1.2.2.2.2.2; simp only at this ⊢; omega)
      exact next_do h _ k op a b c i _ _ _ u (X.doX_eq x _) (X.doS_ok x _ hb.1 hr.1 hr.2.1) hp.1 hp.2 L D fun w' h' => do_any h' k op a b c i u hm hn
    · have hi : I.is (M.word x.ws x.pc) = false := by simpa using hi
      have e1 : X.nextT x = 2 := by unfold X.nextT; rw [if_pos ht, if_neg (by rw [hi]; simp)]
      have e2 : X.nextX x = x := by unfold X.nextX; rw [if_neg (by rw [hi]; simp)]
      rw [e1, e2]
      have D := dec_any (M.word x.ws x.pc) hW
      rw [hi] at D
      exact (next_ill h _ _ _ _ _ _ _ _ L D).mono fun e w' hh => ⟨hh.1, F, h.kept hh.2, hh.2.turn F, fun k hk => Or.inl hk⟩
  · have e1 : X.nextT x = M.wt x.ws x.pc := by unfold X.nextT; rw [if_neg ht]
    have e2 : X.nextX x = x := by unfold X.nextX; rw [if_neg (fun h => ht h.1)]
    rw [e1, e2]
    exact (next_trap h _ _ ht L).mono fun e w' hh => ⟨hh.1, F, h.kept hh.2, hh.2.turn F, fun k hk => Or.inl hk⟩
theorem step_at {F : Nat → Prop} {B : Nat} {x x' : X.St} {w : World} (h : Mac F B x w) (t : Int) (h0 : x.st = 0)
    (C : ∀ w, Mac F B x w → Calls Try.prog 27 #[.pointer (some ⟨B, 0, none⟩)] w fun e w' => e = .returned (.int .i64 t) ∧ ∃ F', Mac F' B x' w' ∧ Turn F w w' ∧ ∀ k, F' k → F k ∨ w.heap.size ≤ k) :
    Calls Try.prog 13 #[.pointer (some ⟨B, 0, none⟩)] w fun e w' => e = .returned (.int .i64 t) ∧ ∃ F', Mac F' B ⟨x'.ws, x'.s, x'.pc, t, x'.ins, x'.outs⟩ w' ∧ Turn F w w' ∧ ∀ k, F' k → F k ∨ w.heap.size ≤ k := by
  have cs := h.st
  rw [h0] at cs
  have hh := Lib.hid h
  clear h
  go_enter Try.func13, Try.ntmps13
  go_wp2_with (fail)
  refine (C _ hh.out).mono ?_; rintro e w2 ⟨rfl, F', p1, p2, p3⟩
  have c2 := p1.st
  have f2 := p1.free 4121
  have hS := Lib.hid (p1.setSt t)
  have hT := Lib.hid (p2.then ((p1.setSt t).2.turn (F := F') p1.inB) p3)
  clear p1 p2 cs hh C
  go_wp2
  go_ret
  exact ⟨rfl, F', hS.out.1, hT.out, p3⟩
theorem step_no {F : Nat → Prop} {B : Nat} {x : X.St} {w : World} (h : Mac F B x w) (h0 : ¬ x.st = 0) :
    Calls Try.prog 13 #[.pointer (some ⟨B, 0, none⟩)] w fun e w' => e = .returned (.int .i64 x.st) ∧ w = w' := by
  have cs := h.st
  have e0 : (x.st == 0) = false := by simpa using h0
  go_enter Try.func13, Try.ntmps13
  go_wp2
  go_ret
  exact ⟨rfl, rfl⟩
theorem step_any {F : Nat → Prop} {B : Nat} {x : X.St} {w : World} (h : Mac F B x w) (hn : x.outs.length < 1000000) :
    Calls Try.prog 13 #[.pointer (some ⟨B, 0, none⟩)] w fun e w' => e = .returned (.int .i64 (X.step x).st) ∧ ∃ F', Mac F' B (X.step x) w' ∧ Turn F w w' ∧ ∀ k, F' k → F k ∨ w.heap.size ≤ k := by
  by_cases h0 : x.st = 0
  · have e : X.step x = ⟨(X.nextX x).ws, (X.nextX x).s, (X.nextX x).pc, X.nextT x, (X.nextX x).ins, (X.nextX x).outs⟩ := by unfold X.step; rw [if_pos h0]
    rw [e]
    exact step_at h _ h0 fun w' h' => next_any h' hn
  · have e : X.step x = x := by unfold X.step; rw [if_neg h0]
    rw [e]
    refine (step_no h h0).mono ?_
    rintro e w' ⟨he, rfl⟩
    exact ⟨he, F, h, Turn.refl F w, fun k hk => Or.inl hk⟩
theorem pc_any {F : Nat → Prop} {B : Nat} {x : X.St} {w : World} (h : Mac F B x w) :
    Calls Try.prog 16 #[.pointer (some ⟨B, 0, none⟩)] w fun e w' => e = .returned (.int .u32 x.pc) ∧ w = w' := by
  have cs := h.pc
  go_enter Try.func16, Try.ntmps16
  go_wp2
  go_ret
  exact ⟨rfl, rfl⟩
theorem regs_any {F : Nat → Prop} {B : Nat} {x : X.St} {w : World} (h : Mac F B x w) :
    Calls Try.prog 15 #[.pointer (some ⟨B, 0, none⟩)] w fun e w' => e = .returned (.agg (A.cells x.s)) ∧ Kept w w' := by
  have hr := fun c t => (h.kept ((Kept.refl w).alloc c t)).regs
  go_enter Try.func15, Try.ntmps15
  go_wp2_with (first
    | (with_reducible refine wpList_load_mid (op := ⟨some 6, _, _, _, _, _⟩) rfl 27 _ rfl _ _ rfl (A.cells x.s).toList _ (hr _ _) Try.underlying27 rfl (by rw [Array.length_toList]; exact A.info25 _) ?_)
    | (with_reducible refine store_last rfl 27 _ _ rfl _ _ rfl rfl rfl (A.info25 _) (by kernel_rfl) (A.one_cells _) ?_))
  refine bodyPost_ret (results_has rfl w.heap.size rfl (Has.new (A.cells x.s) _ _) Try.underlying27 rfl (A.info25 _)) rfl ⟨rfl, (Kept.refl w).alloc _ _⟩
noncomputable def X.go : Nat → X.St → X.St
  | 0, x => x
  | n + 1, x => X.go n (X.step x)
theorem X.go_add (m : Nat) : ∀ (k : Nat) (x : X.St), X.go (k + m) x = X.go m (X.go k x)
  | 0, x => by rw [Nat.zero_add]; rfl
  | k + 1, x => by rw [Nat.add_right_comm]; exact X.go_add m k (X.step x)
theorem X.go_succ (k : Nat) (x : X.St) : X.go (k + 1) x = X.step (X.go k x) := X.go_add 1 k x
theorem X.step_stop (x : X.St) (h : ¬ x.st = 0) : X.step x = x := by unfold X.step; rw [if_neg h]
theorem X.go_stop (x : X.St) (h : ¬ x.st = 0) : ∀ n, X.go n x = x
  | 0 => rfl
  | n + 1 => by show X.go n (X.step x) = x; rw [X.step_stop x h]; exact X.go_stop x h n
theorem X.go_outs : ∀ (n : Nat) (x : X.St), (X.go n x).outs.length ≤ x.outs.length + n
  | 0, _ => Nat.le_refl _
  | n + 1, x => by
    have h1 := X.go_outs n (X.step x)
    have h2 := X.step_outs x
    show (X.go n (X.step x)).outs.length ≤ _
    omega
theorem run_any {F : Nat → Prop} {B : Nat} {x : X.St} {w : World} (h : Mac F B x w) (n : Int) (N : Nat) (hN : n.toNat = N) (n0 : -9223372036854775808 ≤ n) (n1 : n ≤ 1000000) (hn : x.outs.length + N < 1000000) :
    Calls Try.prog 19 #[.pointer (some ⟨B, 0, none⟩), .int .i64 n] w fun e w' => e = .returned (.int .i64 (X.go N x).st) ∧ ∃ F', Mac F' B (X.go N x) w' ∧ Turn F w w' ∧ ∀ k, F' k → F k ∨ w.heap.size ≤ k := by
  have hh := Lib.hid h
  clear h
  go_enter Try.func19, Try.ntmps19
  go_upto_region 0 with (fail)
  go_wp2
  go_loopw [1] (fun i wr => ∃ (k : Nat) (F' : Nat → Prop), k ≤ N ∧ i = .int .i64 (n - k) ∧ Mac F' B (X.go k x) wr ∧ Turn F w wr ∧ ∀ k, F' k → F k ∨ w.heap.size ≤ k) (fun i _ => (intOf i).toNat)
  case atStart => exact ⟨0, F, Nat.zero_le _, by simp, hh.out, Turn.refl F w, fun k hk => Or.inl hk⟩
  case round =>
    obtain ⟨k, F', hk, rfl, hM, hT, hF⟩ := hrel
    have cs := hM.st
    by_cases d1 : 0 < n - k
    · have d3 : decide (n - k > 0) = true := decide_eq_true d1
      by_cases s0 : (X.go k x).st = 0
      · have hl := X.go_outs k x
        have C := step_any hM (by omega)
        rw [← X.go_succ] at C
        rw [s0] at cs
        replace hT := Lib.hid hT
        clear hM hh hl
        go_wp2_with (go_at_call 13; refine C.mono ?_; rintro e w2 ⟨rfl, F2, p1, p2, p3⟩)
        go_roundw
        case rel =>
          refine ⟨k + 1, F2, by omega, by go_num, p1, hT.out.then p2 fun i hi => hF i hi, fun j hj => ?_⟩
          rcases p3 j hj with h1 | h1
          · exact hF j h1
          · exact Or.inr (Nat.le_trans hT.out.size h1)
        case measure => simp [intOf]; omega
      · have e : X.go N x = X.go k x := by
          rw [show N = k + (N - k) by omega, X.go_add, X.go_stop _ s0]
        have s1 : ((X.go k x).st == 0) = false := by simpa using s0
        replace hM := Lib.hid hM
        replace hT := Lib.hid hT
        replace e := Lib.hid e
        clear hh
        go_wp2
        go_ret
        rw [e.out]
        exact ⟨rfl, F', hM.out, hT.out, hF⟩
    · have e : k = N ∨ N = 0 ∧ k = 0 := by omega
      have e : k = N := by omega
      have d3 : decide (n - k > 0) = false := decide_eq_false (by omega)
      rw [e] at hM cs
      replace hM := Lib.hid hM
      replace hT := Lib.hid hT
      clear hh
      go_wp2
      go_ret
      exact ⟨rfl, F', hM.out, hT.out, hF⟩
end Go.Proofs.Ytlmddkciamdldaa

/-
  The contracts of package machine: Start, Place, Words, Out, New.
-/
namespace Go.Proofs.Ytlmddkciamdldaa
open Go.RowKit
set_option linter.unusedVariables false
set_option linter.unusedSimpArgs false
set_option maxRecDepth 100000
theorem But.drew2 {B : Nat} {a b : World} (h : But B a b) : But B a.drew b.drew := ⟨h.os, h.tape, h.output, h.size, h.block, h.froze⟩
theorem Mac.setPc {F : Nat → Prop} {B : Nat} {x : X.St} {w : World} (h : Mac F B x w) (pc : Int) (p0 : 0 ≤ pc) (p1 : pc < 4294967296) : Mac F B ⟨x.ws, x.s, pc, x.st, x.ins, x.outs⟩ (w.setCell ⟨B, 4120, none⟩ (.int .u32 pc)) ∧ But B w (w.setCell ⟨B, 4120, none⟩ (.int .u32 pc)) := by
  obtain ⟨ai, ni, ci, ao, no, co, h⟩ := h
  have hB : But B w (w.setCell ⟨B, 4120, none⟩ (.int .u32 pc)) := (But.refl B w).setCell _ _
  have h2 := h.mem.set1 23 (.int .u32 pc)
  rw [X.tl_pc] at h2
  exact ⟨⟨ai, ni, ci, ao, no, co, h.own hB _ _ _ _ h2 h.ok p0 p1⟩, hB⟩
theorem Mac.setRegs {F : Nat → Prop} {B : Nat} {x : X.St} {w : World} (h : Mac F B x w) (s : A.Regs) (ok : A.Ok s) : Mac F B ⟨x.ws, s, x.pc, x.st, x.ins, x.outs⟩ (w.setCells B 4099 (A.cells s).toList) ∧ But B w (w.setCells B 4099 (A.cells s).toList) := by
  obtain ⟨ai, ni, ci, ao, no, co, h⟩ := h
  have hB : But B w (w.setCells B 4099 (A.cells s).toList) := but_setCells _ _ _ _ (But.refl B w)
  have h1 := h.mem.setN (A.cells s).toList 2
  rw [X.tl_regs] at h1
  exact ⟨⟨ai, ni, ci, ao, no, co, h.own hB _ _ _ _ h1 ok h.pc0 h.pc1⟩, hB⟩
theorem start_any {F : Nat → Prop} {B : Nat} {x : X.St} {w : World} (h : Mac F B x w) (pc : Int) (s : A.Regs) (ok : A.Ok s) (p0 : 0 ≤ pc) (p1 : pc < 4294967296) :
    Calls Try.prog 12 #[.pointer (some ⟨B, 0, none⟩), .int .u32 pc, .agg (A.cells s)] w fun e w' => e = .returned (.tuple #[]) ∧ Mac F B ⟨x.ws, s, pc, 0, x.ins, x.outs⟩ w' ∧ But B w w' := by
  have hBg : B < w.heap.size := h.sub B h.inB
  go_enter Try.func12, Try.ntmps12
  go_upto_region 1 with (fail)
  generalize hw1 : w.alloc (Obj.cells _ _) = w1
  have hR : Has w.heap.size (A.cells s) 27 w1 := by rw [← hw1]; exact Has.new _ _ _
  have hK : Kept w w1 := by rw [← hw1]; exact (Kept.refl w).alloc _ _
  clear hw1
  have hgB : w.heap.size ≠ B := by omega
  generalize w.heap.size = g at *
  have hMd := Lib.hid (show Mac F B x w1.drew from h.kept hK.drew)
  have hM1 := Lib.hid (show Mac F B x w1 from h.kept hK)
  have hKd := Lib.hid (show Kept w w1.drew from hK.drew)
  have cq := hMd.out.pc
  have fq := hMd.out.free 4120
  clear h hK
  refine wp_region_held_drew (S := fun wz => Has g (A.cells s) 27 wz) (by kernel_rfl) ?_ (fun hHeld => ?_)
  · exact hR
  refine wpAnyH_take (i := 0) (oi := { dst := some 6, op := Op.move (Operand.tmp 0), type := 36, pos := "machine.go:46", after := #[], guard := none }) (v := ?_) rfl (by kernel_rfl) (by kernel_rfl) (by kernel_rfl) (fun _ _ _ h => h) (Or.inl ⟨rfl, ?_⟩) hHeld ?_
  rotate_left
  · (intro wz hSw; (try dsimp only at hSw); go_simp; try with_reducible rfl)
  try simp only [Act.put, List.setIfInBounds_toArray, List.set_cons_zero, List.set_cons_succ]
  refine wpAnyH_take (i := 1) (oi := { dst := some 7, op := Op.move (Operand.tmp 0), type := 36, pos := "machine.go:46", after := #[eL 7], guard := none }) (v := ?_) rfl (by kernel_rfl) (by kernel_rfl) (by kernel_rfl) (fun _ _ _ h => h) (Or.inl ⟨rfl, ?_⟩) hHeld ?_
  rotate_left
  · (intro wz hSw; (try dsimp only at hSw); go_simp; try with_reducible rfl)
  try simp only [Act.put, List.setIfInBounds_toArray, List.set_cons_zero, List.set_cons_succ]
  refine wpAnyH_take (i := 2) (oi := { dst := some 8, op := Op.move (Operand.tmp 0), type := 36, pos := "machine.go:46", after := #[eL 10], guard := none }) (v := ?_) rfl (by kernel_rfl) (by kernel_rfl) (by kernel_rfl) (fun _ _ _ h => h) (Or.inl ⟨rfl, ?_⟩) hHeld ?_
  rotate_left
  · (intro wz hSw; (try dsimp only at hSw); go_simp; try with_reducible rfl)
  try simp only [Act.put, List.setIfInBounds_toArray, List.set_cons_zero, List.set_cons_succ]
  refine wpAnyH_take (i := 3) (oi := { dst := some 9, op := Op.move (Operand.tmp 1), type := 24, pos := "machine.go:46", after := #[], guard := none }) (v := ?_) rfl (by kernel_rfl) (by kernel_rfl) (by kernel_rfl) (fun _ _ _ h => h) (Or.inl ⟨rfl, ?_⟩) hHeld ?_
  rotate_left
  · (intro wz hSw; (try dsimp only at hSw); go_simp; try with_reducible rfl)
  try simp only [Act.put, List.setIfInBounds_toArray, List.set_cons_zero, List.set_cons_succ]
  refine wpAnyH_take (i := 4) (oi := { dst := some 10, op := Op.load 27 (Operand.tmp 5), type := 27, pos := "machine.go:46", after := #[eL 7], guard := none }) (v := ?_) rfl (by kernel_rfl) (by kernel_rfl) (by kernel_rfl) (fun _ _ _ h => h) (Or.inl ⟨rfl, ?_⟩) hHeld ?_
  rotate_left
  · (intro wz hSw; refine exec_load_has 27 (Operand.tmp 5) ?_ _ ?_ hSw Try.underlying27 rfl (A.info25 _) <;> rfl)
  try simp only [Act.put, List.setIfInBounds_toArray, List.set_cons_zero, List.set_cons_succ]
  refine wpAnyH_take (i := 5) (oi := { dst := some 11, op := Op.nilCheck (Operand.tmp 6), type := 0, pos := "machine.go:46", after := #[eD 0, eP 0, eT 1, eT 2, eP 3, eT 4], guard := none }) (v := ?_) rfl (by kernel_rfl) (by kernel_rfl) (by kernel_rfl) (fun _ _ _ h => h) (Or.inl ⟨rfl, ?_⟩) hHeld ?_
  rotate_left
  · (intro wz hSw; (try dsimp only at hSw); go_simp; try with_reducible rfl)
  try simp only [Act.put, List.setIfInBounds_toArray, List.set_cons_zero, List.set_cons_succ]
  refine wpAnyH_take (i := 6) (oi := { dst := some 12, op := Op.fieldAddr 70 (Operand.tmp 11) 2, type := 0, pos := "machine.go:46", after := #[eD 5, eP 0, eT 1, eT 2, eP 3, eT 4], guard := none }) (v := ?_) rfl (by kernel_rfl) (by kernel_rfl) (by kernel_rfl) (fun _ _ _ h => h) (Or.inl ⟨rfl, ?_⟩) hHeld ?_
  rotate_left
  · (intro wz hSw; (try dsimp only at hSw); go_simp; try with_reducible rfl)
  try simp only [Act.put, List.setIfInBounds_toArray, List.set_cons_zero, List.set_cons_succ]
  refine wpAnyH_ready (rs := [7]) (by kernel_rfl) (by simp) ?_
  refine AllReadyH.cons (o := { dst := none, op := Op.store 24 (Operand.tmp 12) (Operand.tmp 9), type := 0, pos := "machine.go:46", after := #[eD 6, eD 3, eP 0, eT 1, eT 2, eP 3, eT 4], guard := none }) rfl (fun K hK => ?_) (AllReadyH.nil)
  go_simp
  generalize hwa : World.drew (World.setCell _ _ _) = wa
  have hMa : Mac F B ⟨x.ws, x.s, pc, x.st, x.ins, x.outs⟩ wa ∧ But B w1.drew wa := by rw [← hwa]; exact ⟨(hM1.out.setPc pc p0 p1).1.kept (Kept.refl _).drew, (hM1.out.setPc pc p0 p1).2.drew2⟩
  clear hwa
  have hN := (show (fun wz => Has g (A.cells s) 27 wz) _ from hMa.2.has hgB hHeld)
  clear hHeld
  refine hK.out _ _ hN (fun hHeld => ?_)
  clear hK K hN
  try simp only [Act.put, List.setIfInBounds_toArray, List.set_cons_zero, List.set_cons_succ]
  refine wpAnyH_take (i := 8) (oi := { dst := some 13, op := Op.nilCheck (Operand.tmp 7), type := 0, pos := "machine.go:46", after := #[eD 1, eP 0, eP 1, eT 2, eP 3, eP 4, eP 5, eP 6, eP 7], guard := none }) (v := ?_) rfl (by kernel_rfl) (by kernel_rfl) (by kernel_rfl) (fun _ _ _ h => h) (Or.inl ⟨rfl, ?_⟩) hHeld ?_
  rotate_left
  · (intro wz hSw; (try dsimp only at hSw); go_simp; try with_reducible rfl)
  try simp only [Act.put, List.setIfInBounds_toArray, List.set_cons_zero, List.set_cons_succ]
  refine wpAnyH_take (i := 9) (oi := { dst := some 14, op := Op.fieldAddr 70 (Operand.tmp 13) 1, type := 0, pos := "machine.go:46", after := #[eD 8, eP 0, eP 1, eT 2, eP 3, eP 4, eP 5, eP 6, eP 7], guard := none }) (v := ?_) rfl (by kernel_rfl) (by kernel_rfl) (by kernel_rfl) (fun _ _ _ h => h) (Or.inl ⟨rfl, ?_⟩) hHeld ?_
  rotate_left
  · (intro wz hSw; (try dsimp only at hSw); go_simp; try with_reducible rfl)
  try simp only [Act.put, List.setIfInBounds_toArray, List.set_cons_zero, List.set_cons_succ]
  refine wpAnyH_ready (rs := [10]) (by kernel_rfl) (by simp) ?_
  refine AllReadyH.cons (o := { dst := none, op := Op.store 27 (Operand.tmp 14) (Operand.tmp 10), type := 0, pos := "machine.go:46", after := #[eD 9, eD 4, eC 7, eP 0, eP 1, eT 2, eP 3, eP 4, eP 5, eP 6, eP 7], guard := none }) rfl (fun K hK => ?_) (AllReadyH.nil)
  have hthb := hMa.1.there
  refine wp_store_mid (op := { dst := none, op := Op.store 27 (Operand.tmp 14) (Operand.tmp 10), type := 0, pos := "machine.go:46", after := #[eD 9, eD 4, eC 7, eP 0, eP 1, eT 2, eP 3, eP 4, eP 5, eP 6, eP 7], guard := none }) 27 _ _ rfl _ _ (A.cells s) rfl rfl hthb (A.info25 _) (A.one_cells _) ?_
  have hMb := hMa.1.setRegs s ok
  generalize World.setCells _ _ _ _ = wb at *
  have hN := (show (fun wz => Has g (A.cells s) 27 wz) _ from hMb.2.has hgB hHeld)
  clear hHeld
  refine hK.out _ _ hN (fun hHeld => ?_)
  clear hK K hN
  try simp only [Act.put, List.setIfInBounds_toArray, List.set_cons_zero, List.set_cons_succ]
  refine wpAnyH_take (i := 11) (oi := { dst := some 15, op := Op.nilCheck (Operand.tmp 8), type := 0, pos := "machine.go:46", after := #[eD 2, eP 0, eP 1, eP 2, eP 3, eP 4, eP 5, eP 6, eP 7, eP 8, eP 9, eP 10], guard := none }) (v := ?_) rfl (by kernel_rfl) (by kernel_rfl) (by kernel_rfl) (fun _ _ _ h => h) (Or.inl ⟨rfl, ?_⟩) hHeld ?_
  rotate_left
  · (intro wz hSw; (try dsimp only at hSw); go_simp; try with_reducible rfl)
  try simp only [Act.put, List.setIfInBounds_toArray, List.set_cons_zero, List.set_cons_succ]
  refine wpAnyH_take (i := 12) (oi := { dst := some 16, op := Op.fieldAddr 70 (Operand.tmp 15) 3, type := 0, pos := "machine.go:46", after := #[eD 11, eP 0, eP 1, eP 2, eP 3, eP 4, eP 5, eP 6, eP 7, eP 8, eP 9, eP 10], guard := none }) (v := ?_) rfl (by kernel_rfl) (by kernel_rfl) (by kernel_rfl) (fun _ _ _ h => h) (Or.inl ⟨rfl, ?_⟩) hHeld ?_
  rotate_left
  · (intro wz hSw; (try dsimp only at hSw); go_simp; try with_reducible rfl)
  try simp only [Act.put, List.setIfInBounds_toArray, List.set_cons_zero, List.set_cons_succ]
  refine wpAnyH_ready (rs := [13]) (by kernel_rfl) (by simp) ?_
  refine AllReadyH.cons (o := { dst := none, op := Op.store 3 (Operand.tmp 16) (Operand.const (Value.int IntKind.i64 0)), type := 0, pos := "machine.go:46", after := #[eD 12, eC 10, eP 0, eP 1, eP 2, eP 3, eP 4, eP 5, eP 6, eP 7, eP 8, eP 9, eP 10], guard := none }) rfl (fun K hK => ?_) (AllReadyH.nil)
  have q1 := hMb.1.st
  have q2 := hMb.1.free 4121
  go_simp
  have hMc := hMb.1.setSt 0
  have hN := (show (fun wz => Has g (A.cells s) 27 wz) _ from hMc.2.has hgB hHeld)
  clear hHeld
  refine hK.out _ _ hN (fun hHeld => ?_)
  clear hK K hN
  try simp only [Act.put, List.setIfInBounds_toArray, List.set_cons_zero, List.set_cons_succ]
  refine wpAnyH_done (by kernel_rfl) ?_ _
  have hB := (((hKd.out.but B).trans hMa.2).trans hMb.2).trans hMc.2
  replace hB := Lib.hid hB
  replace hMc := Lib.hid hMc.1
  clear hMa hMb hHeld
  generalize World.setCell wb _ _ = wc at *
  go_wp2
  go_end0
  exact ⟨rfl, hMc.out, hB.out⟩
end Go.Proofs.Ytlmddkciamdldaa

/-
  The contracts of package machine: Place, Words, Out, New.
-/
namespace Go.Proofs.Ytlmddkciamdldaa
open Go.RowKit
set_option linter.unusedVariables false
set_option linter.unusedSimpArgs false
set_option maxRecDepth 100000
theorem place_any {F : Nat → Prop} {B : Nat} {x : X.St} {w : World} (h : Mac F B x w) (k : Nat) (ap : Option Addr) (n c : Nat) (xs : List Int) (hx : Ws w ap n c xs) (hf : k + n ≤ x.ws.length) :
    Calls Try.prog 11 #[.pointer (some ⟨B, 0, none⟩), .int .i64 k, .slice ap n c] w fun e w' => e = .returned (.int .i64 0) ∧ Mac F B ⟨M.placed x.ws k xs, x.s, x.pc, x.st, x.ins, x.outs⟩ w' ∧ But B w w' := by
  obtain ⟨ai, ni, ci, ao, no, co, h⟩ := h
  have C := Lib.hid (M.place_yes h.mem k ap n c xs hx hf)
  have hh := Lib.hid h
  clear h hx
  go_enter Try.func11, Try.ntmps11
  go_wp2_with (fail)
  refine C.out.mono ?_; rintro e w2 ⟨rfl, hM, hB⟩
  have hE := Lib.hid (hh.out.own hB _ _ _ _ hM hh.out.ok hh.out.pc0 hh.out.pc1)
  replace hB := Lib.hid hB
  clear C hM hh
  go_wp2
  go_ret
  exact ⟨rfl, ⟨_, _, _, _, _, _, hE.out⟩, hB.out⟩
def T0 : Nat → Prop := fun _ => False
theorem clone_any {w : World} {ap : Option Addr} {n c : Nat} {xs : List Int} (h : Ws w ap n c xs) (hn : n ≤ 1000000000) :
    Calls Try.prog 25 #[.slice ap n c] w fun e w' => ∃ A' c', e = .returned (.slice A' n c') ∧ Ws w' A' n c' xs ∧ Turn T0 w w' ∧ ∀ ad, A' = some ad → w.heap.size ≤ ad.block ∧ ad.block < w'.heap.size := by
  cases ap with
  | none =>
    have hc := h.nil rfl
    have hl := h.le
    subst hc
    obtain rfl : n = 0 := by omega
    have hx : xs = [] := List.eq_nil_of_length_eq_zero h.len
    subst hx
    have hnil : ∀ W, (binOp .eql 28 (.slice none 0 0) (.slice none 0 0)).run Try.prog W = .ok (.bool true) W := fun W => Lib.run_eql_slice_nil W _ _ _ _ _ _ _ Try.underlying28
    go_enter Try.func25, Try.ntmps25
    go_wp2
    go_ret
    exact ⟨none, 0, rfl, Ws.empty w, Turn.refl _ w, by simp⟩
  | some ad =>
    have hr := h.rng
    have hK := (Kept.refl w).alloc #[] 24
    have hY := Lib.hid (h.kept hK)
    have hO := Lib.hid (Own.new w w.heap.size (Nat.le_refl _))
    have hT := Lib.hid (hK.turn T0)
    have hsz : w.heap.size ≤ (w.alloc (.cells #[] 24)).heap.size := hK.size
    replace hsz := Lib.hid hsz
    clear h hK
    have hnil : ∀ W, (binOp .eql 28 (.slice (some ad) n c) (.slice none 0 0)).run Try.prog W = .ok (.bool false) W := fun W => Lib.run_eql_slice_nil W _ _ _ _ _ _ _ Try.underlying28
    go_enter Try.func25, Try.ntmps25
    go_wp2_with (with_reducible refine append_words (o := ⟨some 7, _, _, _, _, _⟩) rfl (.tmp 5) (.tmp 6) rfl w.heap.size w.heap.size 0 0 [] rfl hO.out (some ad) n c xs rfl hY.out (by omega) hsz.out ?_; intro g' cap' w3 hO3 hG3)
    rw [Nat.zero_add, List.nil_append] at hO3
    have hq := hO3.has
    have hlt := (World.ownsRow.lt hO3 g' rfl)
    have hW := Lib.hid (hO3.ws hr)
    have hT3 : Turn T0 w w3 := ⟨hG3.os.trans hT.out.os, hG3.tape.trans hT.out.tape, hG3.output.trans hT.out.output, Nat.le_trans hT.out.size hG3.size, fun k hk hF => (hG3.block k (Nat.lt_of_lt_of_le hk hT.out.size) (by intro e; cases e; omega)).trans (hT.out.block k hk hF)⟩
    replace hT3 := Lib.hid hT3
    clear hG3 hO3 hY hO hT hsz
    go_ret
    exact ⟨some ⟨g', 0, none⟩, cap', by simp, hW.out, hT3.out, fun bd e => by cases e; exact ⟨hq.1, hlt.2⟩⟩
theorem outs_any {F : Nat → Prop} {B : Nat} {x : X.St} {w : World} (h : Mac F B x w) (hn : x.outs.length ≤ 1000000000) :
    Calls Try.prog 20 #[.pointer (some ⟨B, 0, none⟩)] w fun e w' => ∃ A' c', e = .returned (.slice A' x.outs.length c') ∧ Ws w' A' x.outs.length c' x.outs ∧ Turn T0 w w' ∧ ∀ ad, A' = some ad → w.heap.size ≤ ad.block ∧ ad.block < w'.heap.size := by
  obtain ⟨ai, ni, ci, ao, no, co, h⟩ := h
  have hw := h.out.ws h.rng
  have hl := h.out.len
  subst hl
  have hc : w.cell? ⟨B, 4098, none⟩ = some (.slice ao x.outs.length co) := h.mem.tail 1 _ rfl
  have C := Lib.hid (clone_any hw hn)
  clear h hw
  go_enter Try.func20, Try.ntmps20
  go_wp2_with (fail)
  refine C.out.mono ?_; rintro e w2 ⟨A', c', rfl, p1, p2, p3⟩
  replace p1 := Lib.hid p1
  replace p2 := Lib.hid p2
  replace p3 := Lib.hid p3
  clear C
  go_wp2
  go_ret
  exact ⟨A', c', rfl, p1.out, p2.out, p3.out⟩
/-- cells laid over others -/
theorem lay_at (off : Nat) : ∀ (l : List Value) (n : Nat) (acc : Array Value) (k : Nat), ((l.zipIdx n).foldl (fun cs (p : Value × Nat) => cs.setIfInBounds (off + p.2) p.1) acc)[k]? = if off + n ≤ k ∧ k < off + n + l.length ∧ k < acc.size then l[k - (off + n)]? else acc[k]?
  | [], n, acc, k => by simp; omega
  | v :: r, n, acc, k => by
    rw [List.zipIdx_cons, List.foldl_cons, lay_at off r (n + 1) (acc.setIfInBounds (off + n) v) k]
    simp only [Array.size_setIfInBounds, List.length_cons]
    by_cases c1 : off + n = k
    · subst c1
      rw [if_neg (by omega)]
      by_cases c2 : off + n < acc.size
      · rw [if_pos (by omega), Array.getElem?_setIfInBounds_self_of_lt c2, Nat.sub_self]; rfl
      · rw [if_neg (by omega), Array.getElem?_eq_none (by simp; omega), Array.getElem?_eq_none (by omega)]
    · rw [Array.getElem?_setIfInBounds_ne c1]
      by_cases c2 : off + (n + 1) ≤ k ∧ k < off + (n + 1) + r.length ∧ k < acc.size
      · rw [if_pos c2, if_pos (by omega), show k - (off + n) = (k - (off + (n + 1))) + 1 by omega, List.getElem?_cons_succ]
      · rw [if_neg c2, if_neg (by omega)]
theorem lay_size (off : Nat) : ∀ (l : List Value) (n : Nat) (acc : Array Value), ((l.zipIdx n).foldl (fun cs (p : Value × Nat) => cs.setIfInBounds (off + p.2) p.1) acc).size = acc.size
  | [], n, acc => rfl
  | v :: r, n, acc => by rw [List.zipIdx_cons, List.foldl_cons, lay_size off r (n + 1)]; simp
def X.lay (z : Array Value) (off : Nat) (cs : Array Value) : Array Value := (cs.toList.zipIdx 0).foldl (fun cs (p : Value × Nat) => cs.setIfInBounds (off + p.2) p.1) z
theorem X.lay_at (z : Array Value) (off : Nat) (cs : Array Value) (k : Nat) (hz : off + cs.size ≤ z.size) : (X.lay z off cs)[k]? = if off ≤ k ∧ k < off + cs.size then cs[k - off]? else z[k]? := by
  unfold X.lay
  rw [Go.Proofs.Ytlmddkciamdldaa.lay_at]
  simp only [Nat.add_zero, Array.length_toList]
  by_cases c : off ≤ k ∧ k < off + cs.size
  · rw [if_pos (by omega), if_pos c]; simp
  · rw [if_neg (by omega), if_neg c]
theorem X.lay_size (z : Array Value) (off : Nat) (cs : Array Value) : (X.lay z off cs).size = z.size := Go.Proofs.Ytlmddkciamdldaa.lay_size off _ _ _
theorem fill_cons {place : Nat → Option (Nat × Nat)} {z : Array Value} {i off n : Nat} {v : Value} {rest : List (Nat × Value)} (hp : place i = some (off, n)) (hv : v.cells.size = n) (hz : off + n ≤ z.size) : Instr.fill place z ((i, v) :: rest) = Instr.fill place (X.lay z off v.cells) rest := by
  rw [Instr.fill]
  simp only [hp]
  rw [if_neg (by simp; omega)]
  congr 1
  unfold X.lay
  rw [← Array.foldl_toList, Array.toList_zipIdx]
def X.z68 : Array Value := (List.replicate 4096 (Value.int .u32 0) ++ [Value.int .i64 0, .slice none 0 0, .slice none 0 0]).toArray
def X.z70 : Array Value := (List.replicate 4096 (Value.int .u32 0) ++ (Value.int .i64 0 :: X.tl (.slice none 0 0) (.slice none 0 0) A.none' 0 0)).toArray
theorem X.shape68 : shapeOf Try.prog 68 = some (X.z68, [(0, 4097), (4097, 1), (4098, 1)]) := by kernel_rfl
theorem X.shape70 : shapeOf Try.prog 70 = some (X.z70, [(0, 4099), (4099, 21), (4120, 1), (4121, 1)]) := by kernel_rfl
theorem size_rep (k : Nat) (a : Value) (l : List Value) : (List.replicate k a ++ l).toArray.size = k + l.length := by simp
theorem at_rep (k : Nat) (a : Value) (l : List Value) (j : Nat) (hj : k ≤ j) : (List.replicate k a ++ l).toArray[j]? = l[j - k]? := by
  rw [List.getElem?_toArray, List.getElem?_append_right (by simpa using hj)]; simp
theorem X.z68_size : X.z68.size = 4099 := size_rep 4096 _ _
theorem X.z70_size : X.z70.size = 4122 := size_rep 4096 _ _
theorem X.built68 (cs : Array Value) (hs : cs.size = 4097) (v : Value) (hv : v.cells = #[v]) : Try.prog.built 68 [(0, .agg cs), (1, v)] = some (X.lay (X.lay X.z68 0 cs) 4097 #[v]) := by
  rw [built_of X.shape68, fill_cons (v := .agg cs) (off := 0) (n := 4097) rfl hs (by rw [X.z68_size]; omega), fill_cons (off := 4097) (n := 1) rfl (by rw [hv]; rfl) (by rw [X.lay_size, X.z68_size]; omega), hv]
  rfl
theorem X.built70 (cs : Array Value) (hs : cs.size = 4099) : Try.prog.built 70 [(0, .agg cs), (3, .int .i64 0)] = some (X.lay (X.lay X.z70 0 cs) 4121 #[.int .i64 0]) := by
  rw [built_of X.shape70, fill_cons (v := .agg cs) (off := 0) (n := 4099) rfl hs (by rw [X.z70_size]; omega), fill_cons (off := 4121) (n := 1) rfl rfl (by rw [X.lay_size, X.z70_size]; omega)]
  rfl
/-- a new machine's block -/
theorem MemT.machine {B : Nat} {ws : List Int} {cs : Array Value} {w w' : World} {ap : Option Addr} {n c : Nat} (hl : ws.length ≤ 4096) (hr : ∀ x ∈ ws, 0 ≤ x ∧ x < 4294967296) (hs : cs.size = 4097) (h3 : cs[4096]? = some (.int .i64 (ws.length : Int)))
    (h4 : ∀ (j : Nat) (x : Int), ws[j]? = some x → cs[j]? = some (Value.int .u32 x)) (hB : Has B (X.lay (X.lay X.z70 0 (X.lay (X.lay X.z68 0 cs) 4097 #[.slice ap n c])) 4121 #[.int .i64 0]) 70 w') :
    MemT 70 (X.tl (.slice ap n c) (.slice none 0 0) A.none' 0 0) B ws w' := by
  have s1 : (X.lay (X.lay X.z68 0 cs) 4097 #[.slice ap n c]).size = 4099 := by rw [X.lay_size, X.lay_size, X.z68_size]
  have a1 : ∀ k, k < 4097 → (X.lay (X.lay X.z70 0 (X.lay (X.lay X.z68 0 cs) 4097 #[.slice ap n c])) 4121 #[.int .i64 0])[k]? = cs[k]? := by
    intro k hk
    rw [X.lay_at _ _ _ _ (by rw [X.lay_size, X.z70_size]; simp), if_neg (by omega), X.lay_at _ _ _ _ (by rw [s1, X.z70_size]; omega), if_pos (by omega), Nat.sub_zero, X.lay_at _ _ _ _ (by rw [X.lay_size, X.z68_size]; simp), if_neg (by omega), X.lay_at _ _ _ _ (by rw [hs, X.z68_size]; omega), if_pos (by omega), Nat.sub_zero]
  refine ⟨hl, hr, _, hB, ?_, ?_, fun j x hj => ?_, fun j => ?_⟩
  · rw [X.lay_size, X.lay_size, X.z70_size, X.tl_len]
  · rw [a1 4096 (by omega)]; exact h3
  · have hj' : j < ws.length := by
      rcases Nat.lt_or_ge j ws.length with h1 | h1
      · exact h1
      · rw [List.getElem?_eq_none h1] at hj; cases hj
    rw [a1 j (by omega)]
    exact h4 j x hj
  · by_cases c24 : j = 24
    · subst c24
      rw [X.lay_at _ _ _ _ (by rw [X.lay_size, X.z70_size]; simp), if_pos (by simp)]
      rfl
    · rw [X.lay_at _ _ _ _ (by rw [X.lay_size, X.z70_size]; simp), if_neg (by simp; omega), X.lay_at _ _ _ _ (by rw [s1, X.z70_size]; omega)]
      by_cases c2 : j < 2
      · rw [if_pos (by omega), Nat.sub_zero, X.lay_at _ _ _ _ (by rw [X.lay_size, X.z68_size]; simp)]
        by_cases c0 : j = 0
        · subst c0
          rw [if_pos (by simp)]
          rfl
        · obtain rfl : j = 1 := by omega
          rw [if_neg (by simp), X.lay_at _ _ _ _ (by rw [hs, X.z68_size]; omega), if_neg (by omega)]
          exact at_rep 4096 _ _ 4098 (by omega)
      · rw [if_neg (by omega)]
        refine (at_rep 4096 _ _ (4097 + j) (by omega)).trans ?_
        rw [show 4097 + j - 4096 = j + 1 by omega, List.getElem?_cons_succ]
        obtain ⟨m, rfl⟩ : ∃ m, j = m + 2 := ⟨j - 2, by omega⟩
        rfl
theorem A.ok_none : A.Ok A.none' := ⟨fun j _ => by simp [A.none'], by simp [A.none'], by simp [A.none']⟩
theorem new_any {w : World} (n : Nat) (hn : n ≤ 4096) {ap : Option Addr} {m c : Nat} {xs : List Int} (hx : Ws w ap m c xs) (hm : m ≤ 1000000000) :
    Calls Try.prog 10 #[.int .i64 n, .slice ap m c] w fun e w' => ∃ B, e = .returned (.tuple #[.pointer (some ⟨B, 0, none⟩), .int .i64 0]) ∧ ∃ F, Mac F B ⟨List.replicate n 0, A.none', 0, 0, xs, []⟩ w' ∧ Turn T0 w w' ∧ ∀ k, F k → w.heap.size ≤ k := by
  have C := Lib.hid (M.new_yes n hn w)
  have hX := Lib.hid hx
  clear hx
  go_enter Try.func10, Try.ntmps10
  go_wp2_with (fail)
  refine C.out.mono ?_; rintro e w1 ⟨rfl, hM, hK, hsz⟩
  clear C
  go_upto_region 4 with (fail)
  have hKd := Lib.hid (show Kept w w1.drew from hK.drew)
  have hl := hM.len
  have hrng := hM.rng
  obtain ⟨cs, hh, hcs, hc3, hc4, _⟩ := hM.has
  replace hcs : cs.size = 4097 := hcs
  have hS0 : Has w.heap.size cs 66 w1.drew ∧ Ws w1.drew ap m c xs := ⟨hh, hX.out.kept hKd.out⟩
  replace hS0 := Lib.hid hS0
  clear hM hK hX hh
  refine wp_region_held_drew (S := fun wz => Has w.heap.size cs 66 wz ∧ Ws wz ap m c xs) (by kernel_rfl) ?_ (fun hHeld => ?_)
  · exact hS0.out
  refine wpAnyH_take (i := 0) (oi := { dst := some 16, op := Op.move (Operand.tmp 6), type := 61, pos := "machine.go:38", after := #[], guard := none }) (v := ?_) rfl (by kernel_rfl) (by kernel_rfl) (by kernel_rfl) (fun _ _ _ h => h) (Or.inl ⟨rfl, ?_⟩) hHeld ?_
  rotate_left
  · (intro wz hSw; (try dsimp only at hSw); go_simp; try with_reducible rfl)
  try simp only [Act.put, List.setIfInBounds_toArray, List.set_cons_zero, List.set_cons_succ]
  refine wpAnyH_take (i := 1) (oi := { dst := some 17, op := Op.nilCheck (Operand.tmp 16), type := 0, pos := "machine.go:38", after := #[eD 0], guard := none }) (v := ?_) rfl (by kernel_rfl) (by kernel_rfl) (by kernel_rfl) (fun _ _ _ h => h) (Or.inl ⟨rfl, ?_⟩) hHeld ?_
  rotate_left
  · (intro wz hSw; (try dsimp only at hSw); go_simp; try with_reducible rfl)
  try simp only [Act.put, List.setIfInBounds_toArray, List.set_cons_zero, List.set_cons_succ]
  refine wpAnyH_take (i := 2) (oi := { dst := some 18, op := Op.load 66 (Operand.tmp 17), type := 66, pos := "machine.go:38", after := #[eD 1], guard := none }) (v := ?_) rfl (by kernel_rfl) (by kernel_rfl) (by kernel_rfl) (fun _ _ _ h => h) (Or.inl ⟨rfl, ?_⟩) hHeld ?_
  rotate_left
  · (intro wz hSw; refine exec_load_has 66 (Operand.tmp 17) ?_ _ ?_ hSw.1 Try.underlying66 rfl (by rw [hcs]; kernel_rfl) <;> rfl)
  try simp only [Act.put, List.setIfInBounds_toArray, List.set_cons_zero, List.set_cons_succ]
  refine wpAnyH_take (i := 3) (oi := { dst := some 19, op := Op.move (Operand.tmp 1), type := 28, pos := "machine.go:38", after := #[], guard := none }) (v := ?_) rfl (by kernel_rfl) (by kernel_rfl) (by kernel_rfl) (fun _ _ _ h => h) (Or.inl ⟨rfl, ?_⟩) hHeld ?_
  rotate_left
  · (intro wz hSw; (try dsimp only at hSw); go_simp; try with_reducible rfl)
  try simp only [Act.put, List.setIfInBounds_toArray, List.set_cons_zero, List.set_cons_succ]
  refine wpAnyH_ready (rs := [4]) (by kernel_rfl) (by simp) ?_
  refine AllReadyH.cons (o := { dst := some 20, op := Op.call { callee := Callee.value (Operand.func 25), args := #[Operand.tmp 19], argTypes := #[28] }, type := 28, pos := "machine.go:38", after := #[eD 3], guard := none }) rfl (fun K hK => ?_) (AllReadyH.nil)
  go_simp
  go_at_call 25
  refine (clone_any hHeld.2 (by omega)).mono ?_
  rintro e wd ⟨A', c', rfl, p1, p2, p3⟩
  have hN := (show (fun wz => Has w.heap.size cs 66 wz ∧ Ws wz ap m c xs) _ from ⟨(p2.block _ hHeld.1.lt id).trans hHeld.1, hHeld.2.to fun ad e hn => p2.block _ (by subst e; exact hHeld.2.lt hn) id⟩)
  clear hHeld
  refine hK.out _ _ hN (fun hHeld => ?_)
  clear hK K hN
  try simp only [Act.put, List.setIfInBounds_toArray, List.set_cons_zero, List.set_cons_succ]
  refine wpAnyH_take (i := 5) (oi := { dst := some 21, op := Op.build 68 #[(0, Operand.tmp 18), (1, Operand.tmp 20)], type := 68, pos := "machine.go:38", after := #[eD 2, eD 4], guard := none }) (v := ?_) rfl (by kernel_rfl) (by kernel_rfl) (by kernel_rfl) (fun _ _ _ h => h) (Or.inl ⟨rfl, ?_⟩) hHeld ?_
  rotate_left
  · (intro wz hSw; refine exec_build (o := { dst := some 21, op := Op.build 68 #[(0, Operand.tmp 18), (1, Operand.tmp 20)], type := 68, pos := "machine.go:38", after := #[eD 2, eD 4], guard := none }) 68 _ rfl (X.lay (X.lay X.z68 0 cs) 4097 #[.slice A' m c']) ?_; (go_simp; exact X.built68 cs hcs (.slice A' m c') rfl))
  try simp only [Act.put, List.setIfInBounds_toArray, List.set_cons_zero, List.set_cons_succ]
  refine wpAnyH_take (i := 6) (oi := { dst := some 22, op := Op.build 70 #[(0, Operand.tmp 21), (3, Operand.const (Value.int IntKind.i64 0))], type := 70, pos := "machine.go:38", after := #[eD 5], guard := none }) (v := ?_) rfl (by kernel_rfl) (by kernel_rfl) (by kernel_rfl) (fun _ _ _ h => h) (Or.inl ⟨rfl, ?_⟩) hHeld ?_
  rotate_left
  · (intro wz hSw; refine exec_build (o := { dst := some 22, op := Op.build 70 #[(0, Operand.tmp 21), (3, Operand.const (Value.int IntKind.i64 0))], type := 70, pos := "machine.go:38", after := #[eD 5], guard := none }) 70 _ rfl (X.lay (X.lay X.z70 0 (X.lay (X.lay X.z68 0 cs) 4097 #[.slice A' m c'])) 4121 #[.int .i64 0]) ?_; (go_simp; exact X.built70 (X.lay (X.lay X.z68 0 cs) 4097 #[.slice A' m c']) (by rw [X.lay_size, X.lay_size, X.z68_size])))
  try simp only [Act.put, List.setIfInBounds_toArray, List.set_cons_zero, List.set_cons_succ]
  refine wpAnyH_ready (rs := [7]) (by kernel_rfl) (by simp) ?_
  refine AllReadyH.cons (o := { dst := some 23, op := Op.box 70 (Operand.tmp 22), type := 36, pos := "machine.go:38", after := #[eD 6], guard := none }) rfl (fun K hK => ?_) (AllReadyH.nil)
  go_simp
  have hBox := Has.new (X.lay (X.lay X.z70 0 (X.lay (X.lay X.z68 0 cs) 4097 #[.slice A' m c'])) 4121 #[.int .i64 0]) 70 wd
  have hKb := (Kept.refl wd).alloc (X.lay (X.lay X.z70 0 (X.lay (X.lay X.z68 0 cs) 4097 #[.slice A' m c'])) 4121 #[.int .i64 0]) 70
  generalize wd.alloc _ = we at *
  have hN := (show (fun wz => Has w.heap.size cs 66 wz ∧ Ws wz ap m c xs) _ from ⟨hHeld.1.kept hKb, hHeld.2.kept hKb⟩)
  clear hHeld
  refine hK.out _ _ hN (fun hHeld => ?_)
  clear hK K hN
  try simp only [Act.put, List.setIfInBounds_toArray, List.set_cons_zero, List.set_cons_succ]
  refine wpAnyH_take (i := 8) (oi := { dst := some 4, op := Op.assign (Operand.tmp 23), type := 36, pos := "machine.go:38", after := #[eD 7, eC 4, eP 0, eP 1, eP 2, eP 3, eP 4, eP 5, eP 6, eP 7], guard := none }) (v := ?_) rfl (by kernel_rfl) (by kernel_rfl) (by kernel_rfl) (fun _ _ _ h => h) (Or.inl ⟨rfl, ?_⟩) hHeld ?_
  rotate_left
  · (intro wz hSw; (try dsimp only at hSw); go_simp; try with_reducible rfl)
  try simp only [Act.put, List.setIfInBounds_toArray, List.set_cons_zero, List.set_cons_succ]
  refine wpAnyH_take (i := 9) (oi := { dst := some 5, op := Op.assign (Operand.const (Value.int IntKind.i64 0)), type := 33, pos := "machine.go:38", after := #[eC 8, eP 0, eP 1, eP 2, eP 3, eP 4, eP 5, eP 6, eP 7, eP 8], guard := none }) (v := ?_) rfl (by kernel_rfl) (by kernel_rfl) (by kernel_rfl) (fun _ _ _ h => h) (Or.inl ⟨rfl, ?_⟩) hHeld ?_
  rotate_left
  · (intro wz hSw; (try dsimp only at hSw); go_simp; try with_reducible rfl)
  try simp only [Act.put, List.setIfInBounds_toArray, List.set_cons_zero, List.set_cons_succ]
  refine wpAnyH_done (by kernel_rfl) ?_ _
  have hT : Turn T0 w we := ((hKd.out.turn T0).trans p2).trans (hKb.turn T0)
  have hle : w.heap.size ≤ wd.heap.size := Nat.le_trans hKd.out.size p2.size
  have hlt : wd.heap.size < we.heap.size := hBox.lt
  have hMM := MemT.machine (w := we) hl hrng hcs hc3 hc4 hBox
  have hW := p1.kept hKb
  have hMac : Mac (fun k => w.heap.size ≤ k ∧ k < we.heap.size) wd.heap.size ⟨List.replicate n 0, A.none', 0, 0, xs, []⟩ we := ⟨A', m, c', none, 0, 0, fun k hk => hk.2, ⟨hle, hlt⟩, hMM, hW, fun ad e _ => ⟨⟨Nat.le_trans hKd.out.size (p3 ad e).1, by have := (p3 ad e).2; omega⟩, by have := (p3 ad e).2; omega, fun bd e' => by cases e'⟩, World.ownsRow_nil we 0 _ _, (fun ad e => by cases e), A.ok_none, by simp, by simp, by simp⟩
  replace hMac := Lib.hid hMac
  replace hT := Lib.hid hT
  clear p1 p2 p3 hMM hW hBox hKb hHeld
  go_wp2
  go_ret2
  exact ⟨_, rfl, _, hMac.out, hT.out, fun k hk => hk.1⟩
end Go.Proofs.Ytlmddkciamdldaa

/-
  Two registers' values that are the same are equal; operations behind a guard.
-/
namespace Go.Proofs.Ytlmddkciamdldaa
open Go.RowKit
set_option linter.unusedVariables false
set_option linter.unusedSimpArgs false
set_option maxRecDepth 100000
theorem A.part_u (xs : Array Value) (j : Nat) (x : Int) (w : World) (hj : xs[j]? = some (.int .u32 x)) : (part 24 xs j).run Try.prog w = .ok (.int .u32 x) w := by
  have ha := run_isAgg Try.underlying24 w
  simp [part, Sem.run_bind, run_sizeOf (P := Try.prog) (e := 24) (m := 1) (by kernel_rfl), ha, TypeDesc.isRow, hj]
theorem A.part_b (xs : Array Value) (j : Nat) (x : Bool) (w : World) (hj : xs[j]? = some (.bool x)) : (part 4 xs j).run Try.prog w = .ok (.bool x) w := by
  have ha := run_isAgg Try.underlying4 w
  simp [part, Sem.run_bind, run_sizeOf (P := Try.prog) (e := 4) (m := 1) (by kernel_rfl), ha, TypeDesc.isRow, hj]
theorem A.part_R (s : A.Regs) (w : World) : (part 25 (A.cells s) 0).run Try.prog w = .ok (.agg ((A.cells s).extract 0 16)) w := by
  have ha := run_isAgg Try.underlying25 w
  simp [part, Sem.run_bind, run_sizeOf (P := Try.prog) (e := 25) (m := 16) (by kernel_rfl), ha, TypeDesc.isRow]
theorem A.items (d : Nat) (xs : Array Value) (w : World) : ∀ is : List Nat, (∀ i ∈ is, ∃ x, xs[i]? = some (.int .u32 x)) → (Op.eqItems (d + 1) 24 1 xs xs is).run Try.prog w = .ok true w
  | [], _ => by simp [Op.eqItems]
  | i :: is, h => by
    obtain ⟨x, hx⟩ := h i (by simp)
    have hp := A.part_u xs (i * 1) x w (by simpa using hx)
    have := A.items d xs w is (fun j hj => h j (by simp [hj]))
    simp only [Op.eqItems, Sem.run_bind, hp, Result.andThen_ok, run_equalIn_int w d 24 .u32 .u32 x x Try.underlying24]
    simpa using this
theorem A.eq_R (d : Nat) (s : A.Regs) (w : World) : (Op.equalIn (d + 2) 25 (.agg ((A.cells s).extract 0 16)) (.agg ((A.cells s).extract 0 16))).run Try.prog w = .ok true w := by
  obtain ⟨i, hi⟩ : ∃ i, Try.prog.info? 24 = some i := Option.isSome_iff_exists.1 (show (Try.prog.info? 24).isSome = true by kernel_rfl)
  rw [run_equalIn_array w (d + 1) _ _ Try.underlying25 hi, show Try.prog.cellsOf 24 = 1 by kernel_rfl]
  refine A.items d _ w _ fun j hj => ?_
  have hj' : j < 16 := by simpa using hj
  exact ⟨s.r j, by rw [Array.getElem?_extract]; simp [hj', A.cell_r s j hj']⟩
theorem A.eq_u (d : Nat) (x : Int) (w : World) : (Op.equalIn (d + 2) 24 (.int .u32 x) (.int .u32 x)).run Try.prog w = .ok true w := by
  rw [run_equalIn_int w (d + 1) 24 .u32 .u32 x x Try.underlying24]; simp
theorem A.eq_b (d : Nat) (x : Bool) (w : World) : (Op.equalIn (d + 2) 4 (.bool x) (.bool x)).run Try.prog w = .ok true w := by
  rw [run_equalIn_bool' w (d + 1) 4 x x Try.underlying4]; simp
theorem A.eq_regsD (d : Nat) (s : A.Regs) (w : World) : (Op.equalIn (d + 3) 27 (.agg (A.cells s)) (.agg (A.cells s))).run Try.prog w = .ok true w := by
  rw [run_equalIn_struct w (d + 2) 27 _ _ Try.underlying27 (by kernel_rfl)]
  simp only [Program.fieldsOf, Try.underlying27]
  simp only [Op.eqFields]
  rw [if_pos (by decide), if_pos (by decide), if_pos (by decide), if_pos (by decide), if_pos (by decide), if_pos (by decide)]
  simp only [Sem.run_bind, A.part_R, A.eq_R, A.part_u (A.cells s) 16 s.h _ rfl, A.part_b (A.cells s) 17 s.n _ rfl, A.part_b (A.cells s) 18 s.z _ rfl, A.part_b (A.cells s) 19 s.c _ rfl, A.part_b (A.cells s) 20 s.v _ rfl, A.eq_u, A.eq_b, Result.andThen_ok, Bool.not_true, Bool.false_eq_true, if_false, Sem.run_pure]
theorem A.depth : Op.maxDepth = 9997 + 3 := rfl
theorem A.eq_regs (s : A.Regs) (w : World) : (Op.equal 27 (.agg (A.cells s)) (.agg (A.cells s))).run Try.prog w = .ok true w := by
  unfold Op.equal
  rw [A.depth]
  exact A.eq_regsD 9997 s w
section
variable {P : Program} {ops : Array Oper} {rest : List Oper} {o : Oper} {a : Act} {w : World} {Q : Exit → Act → World → Prop}
/-- an operation that is wanted, and only makes a value -/
theorem want_exec {v : Value} (hw : Region.wanted o (yielded ops a.tmps) = true) (he : (execOp a.eval o).run P w = .ok (.value v) w) (h : wpList P ops Q rest (a.put o.dst v) w) : wpList P ops Q (o :: rest) a w :=
  BigFrame.wpList_want hw fun K hK => by
    unfold Oper.wp
    simp only [he, Oper.upon]
    exact hK _ _ h
end
theorem A.bin_eq (cs ds : Array Value) : binOp BinOp.eql 27 (.agg cs) (.agg ds) = (do pure (.bool (← Op.equal 27 (.agg cs) (.agg ds)))) := by simp only [binOp]
theorem exec_eq_regs {o : Oper} {a : Act} {w : World} (x y : Operand) (ho : o.op = .binOp .eql 27 x y 27) (s : A.Regs) (hx : a.eval x = .agg (A.cells s)) (hy : a.eval y = .agg (A.cells s)) :
    (execOp a.eval o).run Try.prog w = .ok (.value (.bool true)) w := by
  unfold execOp
  simp only [ho, hx, hy, Sem.run_bind]
  rw [run_eqGuard_agg w BinOp.eql 27 x y (A.cells s) (A.cells s) (by kernel_rfl)]
  simp only [Result.andThen_ok, A.bin_eq, Sem.run_bind, A.eq_regs, Sem.run_pure]
end Go.Proofs.Ytlmddkciamdldaa

/-
  One machine in a law's walk: Live; the contracts in its words; the document's example.
-/
namespace Go.Proofs.Ytlmddkciamdldaa
open Go.RowKit
set_option linter.unusedVariables false
set_option linter.unusedSimpArgs false
set_option maxRecDepth 100000
/-- the machine x, made since w0; nothing of w0 has turned -/
def Live (w0 : World) (B : Nat) (x : X.St) (w : World) : Prop := ∃ F, Mac F B x w ∧ (∀ k, F k → w0.heap.size ≤ k) ∧ Below w0.heap.size w0 w
theorem Live.below {w0 : World} {B : Nat} {x : X.St} {w : World} (h : Live w0 B x w) : Below w0.heap.size w0 w := by obtain ⟨F, h1, h2, h3⟩ := h; exact h3
theorem Live.mac {w0 : World} {B : Nat} {x : X.St} {w : World} (h : Live w0 B x w) : ∃ F, Mac F B x w := by obtain ⟨F, h1, h2, h3⟩ := h; exact ⟨F, h1⟩
theorem Live.turn0 {w0 : World} {B : Nat} {x : X.St} {w w' : World} (h : Live w0 B x w) (hT : Turn T0 w w') : Live w0 B x w' := by
  obtain ⟨F, h1, h2, h3⟩ := h
  exact ⟨F, h1.turn hT fun _ _ h => h, h2, h3.trans (hT.below w0.heap.size h3.size fun _ h => h.elim)⟩
theorem Live.kept {w0 : World} {B : Nat} {x : X.St} {w w' : World} (h : Live w0 B x w) (hK : Kept w w') : Live w0 B x w' := h.turn0 (hK.turn T0)
theorem Live.to {w0 : World} {B : Nat} {x' : X.St} {F F' : Nat → Prop} {w w' : World} (hF : ∀ k, F k → w0.heap.size ≤ k) (hb : Below w0.heap.size w0 w) (hM : Mac F' B x' w') (hT : Turn F w w') (hF' : ∀ k, F' k → F k ∨ w.heap.size ≤ k) : Live w0 B x' w' :=
  ⟨F', hM, fun k hk => by
    rcases hF' k hk with h1 | h1
    · exact hF k h1
    · exact Nat.le_trans hb.size h1, hb.trans (hT.below w0.heap.size hb.size hF)⟩
theorem Live.toB {w0 : World} {B : Nat} {x' : X.St} {F : Nat → Prop} {w w' : World} (hF : ∀ k, F k → w0.heap.size ≤ k) (hb : Below w0.heap.size w0 w) (hM : Mac F B x' w') (hB : But B w w') : Live w0 B x' w' :=
  Live.to hF hb hM (hB.turn hM.inB) fun k hk => Or.inl hk
theorem new_live {w : World} (n : Nat) (hn : n ≤ 4096) {ap : Option Addr} {m c : Nat} {xs : List Int} (hx : Ws w ap m c xs) (hm : m ≤ 1000000000) :
    Calls Try.prog 10 #[.int .i64 n, .slice ap m c] w fun e w' => ∃ B, e = .returned (.tuple #[.pointer (some ⟨B, 0, none⟩), .int .i64 0]) ∧ Live w B ⟨List.replicate n 0, A.none', 0, 0, xs, []⟩ w' := by
  refine (new_any n hn hx hm).mono ?_
  rintro e w' ⟨B, he, F, h1, h2, h3⟩
  exact ⟨B, he, F, h1, h3, h2.kept0⟩
theorem step_live {w0 : World} {B : Nat} {x : X.St} {w : World} (h : Live w0 B x w) (hn : x.outs.length < 1000000) :
    Calls Try.prog 13 #[.pointer (some ⟨B, 0, none⟩)] w fun e w' => e = .returned (.int .i64 (X.step x).st) ∧ Live w0 B (X.step x) w' := by
  obtain ⟨F, h1, h2, h3⟩ := h
  refine (step_any h1 hn).mono ?_
  rintro e w' ⟨he, F', p1, p2, p3⟩
  exact ⟨he, Live.to h2 h3 p1 p2 p3⟩
theorem run_live {w0 : World} {B : Nat} {x : X.St} {w : World} (h : Live w0 B x w) (n : Int) (N : Nat) (hN : n.toNat = N) (n0 : -9223372036854775808 ≤ n) (n1 : n ≤ 1000000) (hn : x.outs.length + N < 1000000) :
    Calls Try.prog 19 #[.pointer (some ⟨B, 0, none⟩), .int .i64 n] w fun e w' => e = .returned (.int .i64 (X.go N x).st) ∧ Live w0 B (X.go N x) w' := by
  obtain ⟨F, h1, h2, h3⟩ := h
  refine (run_any h1 n N hN n0 n1 hn).mono ?_
  rintro e w' ⟨he, F', p1, p2, p3⟩
  exact ⟨he, Live.to h2 h3 p1 p2 p3⟩
theorem place_live {w0 : World} {B : Nat} {x : X.St} {w : World} (h : Live w0 B x w) (k : Nat) (ap : Option Addr) (n c : Nat) (xs : List Int) (hx : Ws w ap n c xs) (hf : k + n ≤ x.ws.length) :
    Calls Try.prog 11 #[.pointer (some ⟨B, 0, none⟩), .int .i64 k, .slice ap n c] w fun e w' => e = .returned (.int .i64 0) ∧ Live w0 B ⟨M.placed x.ws k xs, x.s, x.pc, x.st, x.ins, x.outs⟩ w' := by
  obtain ⟨F, h1, h2, h3⟩ := h
  refine (place_any h1 k ap n c xs hx hf).mono ?_
  rintro e w' ⟨he, p1, p2⟩
  exact ⟨he, Live.toB h2 h3 p1 p2⟩
theorem start_live {w0 : World} {B : Nat} {x : X.St} {w : World} (h : Live w0 B x w) (pc : Int) (s : A.Regs) (ok : A.Ok s) (p0 : 0 ≤ pc) (p1 : pc < 4294967296) :
    Calls Try.prog 12 #[.pointer (some ⟨B, 0, none⟩), .int .u32 pc, .agg (A.cells s)] w fun e w' => e = .returned (.tuple #[]) ∧ Live w0 B ⟨x.ws, s, pc, 0, x.ins, x.outs⟩ w' := by
  obtain ⟨F, h1, h2, h3⟩ := h
  refine (start_any h1 pc s ok p0 p1).mono ?_
  rintro e w' ⟨he, q1, q2⟩
  exact ⟨he, Live.toB h2 h3 q1 q2⟩
theorem pc_live {w0 : World} {B : Nat} {x : X.St} {w : World} (h : Live w0 B x w) :
    Calls Try.prog 16 #[.pointer (some ⟨B, 0, none⟩)] w fun e w' => e = .returned (.int .u32 x.pc) ∧ w = w' := by
  obtain ⟨F, h1⟩ := h.mac; exact pc_any h1
theorem regs_live {w0 : World} {B : Nat} {x : X.St} {w : World} (h : Live w0 B x w) :
    Calls Try.prog 15 #[.pointer (some ⟨B, 0, none⟩)] w fun e w' => e = .returned (.agg (A.cells x.s)) ∧ Kept w w' := by
  obtain ⟨F, h1⟩ := h.mac; exact regs_any h1
theorem outs_live {w0 : World} {B : Nat} {x : X.St} {w : World} (h : Live w0 B x w) (hn : x.outs.length ≤ 1000000000) :
    Calls Try.prog 20 #[.pointer (some ⟨B, 0, none⟩)] w fun e w' => ∃ A' c', e = .returned (.slice A' x.outs.length c') ∧ Ws w' A' x.outs.length c' x.outs ∧ Turn T0 w w' ∧ ∀ ad, A' = some ad → w.heap.size ≤ ad.block ∧ ad.block < w'.heap.size := by
  obtain ⟨F, h1⟩ := h.mac; exact outs_any h1 hn
namespace X
/-- a step that does an instruction -/
theorem step_ins (x : St) (j : I.Ins) (h0 : x.st = 0) (ht : M.wt x.ws x.pc = 0) (hw : M.word x.ws x.pc = I.word j) (hm : I.May j) :
    step x = if doT x j = 0 ∨ doT x j = 1 then ⟨(doX x j).ws, doS x j, doP x j, doT x j, (doX x j).ins, (doX x j).outs⟩ else ⟨(doX x j).ws, x.s, x.pc, doT x j, (doX x j).ins, (doX x j).outs⟩ := by
  have hi : I.is (M.word x.ws x.pc) = true := by rw [hw]; exact I.is_word j hm
  have hd : I.dec (M.word x.ws x.pc) = j := by rw [hw]; exact I.dec_word j hm
  have hT : nextT x = doT x j := by unfold nextT; rw [if_pos ht, if_pos hi, hd]
  unfold step
  rw [if_pos h0, hT]
  unfold nextX
  rw [if_pos ⟨ht, hi⟩, hd]
  by_cases c : doT x j = 0 ∨ doT x j = 1
  · rw [if_pos c, if_pos c]
  · rw [if_neg c, if_neg c]
    have := doX_eq x j
    rw [this.1, this.2.1]
/-- the word that stands at a place -/
theorem at_word (ws : List Int) (k : Nat) (v pc : Int) (hk : ws[k]? = some v) (hp : pc = 4 * k) : M.wt ws pc = 0 ∧ M.word ws pc = v := by
  have hl : k < ws.length := by
    rcases Nat.lt_or_ge k ws.length with h1 | h1
    · exact h1
    · rw [List.getElem?_eq_none h1] at hk; cases hk
  subst hp
  have e1 : M.wt ws (4 * k) = 0 := by
    unfold M.wt M.bt
    rw [if_pos (by omega), if_neg (by omega)]
  refine ⟨e1, ?_⟩
  unfold M.word
  rw [if_pos e1, show ((4 * (k : Int)) / 4).toNat = k by omega, List.getD_eq_getElem?_getD, hk]
  rfl
end X
theorem run_imm_mov (s : A.Regs) (a i : Int) (hs : A.Ok s) (hm : I.May ⟨2, 0, a, 0, 0, i, false⟩) : A.run s ⟨2, 0, a, 0, 0, i, false⟩ = (A.show' (A.set s a.toNat (i % 4294967296)) (i % 4294967296), 0) := by
  rw [A.run_yes s _ hm (Or.inr (Or.inl rfl)) (fun h => by have := h.2.1; simp at this)]
  rfl
theorem X.first : X.step ⟨[1090519045], A.none', 0, 0, [], []⟩ = ⟨[1090519045], A.show' (A.set A.none' 1 5) 5, 4, 0, [], []⟩ := by
  have hm : I.May ⟨2, 0, 1, 0, 0, 5, false⟩ := by unfold I.May; simp
  have hw : I.word ⟨2, 0, 1, 0, 0, 5, false⟩ = 1090519045 := by simp [I.word, I.bit]
  have ha := X.at_word [1090519045] 0 1090519045 0 rfl rfl
  rw [X.step_ins _ ⟨2, 0, 1, 0, 0, 5, false⟩ rfl ha.1 (ha.2.trans hw.symm) hm]
  have hr := run_imm_mov A.none' 1 5 A.ok_none hm
  have e1 : X.doT ⟨[1090519045], A.none', 0, 0, [], []⟩ ⟨2, 0, 1, 0, 0, 5, false⟩ = 0 := by unfold X.doT; rw [if_neg (by simp), if_neg (by simp), hr]
  have e2 : X.doS ⟨[1090519045], A.none', 0, 0, [], []⟩ ⟨2, 0, 1, 0, 0, 5, false⟩ = A.show' (A.set A.none' 1 5) 5 := by unfold X.doS; rw [if_neg (by simp), if_neg (by simp), hr]; rfl
  have e3 : X.doP ⟨[1090519045], A.none', 0, 0, [], []⟩ ⟨2, 0, 1, 0, 0, 5, false⟩ = 4 := by unfold X.doP; rw [if_neg (by simp)]; rfl
  have e4 : X.doX ⟨[1090519045], A.none', 0, 0, [], []⟩ ⟨2, 0, 1, 0, 0, 5, false⟩ = ⟨[1090519045], A.none', 0, 0, [], []⟩ := by unfold X.doX; rw [if_neg (by simp)]
  rw [e1, e2, e3, e4, if_pos (Or.inl rfl)]
theorem A.field_R (s : A.Regs) (W : World) : (Instr.field 27 (.agg (A.cells s)) 0).run Try.prog W = .ok (.agg ((A.cells s).extract 0 16)) W := by
  have h := A.part_R s W
  simp only [Instr.field, Sem.run_bind, run_underlying Try.underlying27, Result.andThen_ok, asAgg, Sem.run_pure]
  exact h
theorem A.index_R (s : A.Regs) (j : Nat) (hj : j < 16) (W : World) : (Instr.index 25 (.agg ((A.cells s).extract 0 16)) (.int .i64 j)).run Try.prog W = .ok (.int .u32 (s.r j)) W :=
  run_index_cell Try.underlying25 (by omega) (by omega) Try.underlying24 rfl (by kernel_rfl) (by
    rw [Array.getElem?_extract]
    have := A.cell_r s j hj
    simp [hj, this]) W
theorem shown_any (w : World) : Calls Try.prog 7 #[] w fun e w' => e = .returned (.bool true) ∧ Turn T0 w w' := by
  go_enter Try.func7, Try.ntmps7
  go_wp2_with (fail)
  refine (new_live 1 (by omega) (Ws.empty w) (by omega)).mono ?_; rintro e w1 ⟨B, rfl, hL⟩
  have hLb := hL.below.size
  have hL1 := Lib.hid (hL.kept ((Kept.refl w1).alloc #[.int .u32 1090519045] 24))
  have hW1 := Lib.hid (Ws.sole (Has.new #[.int .u32 1090519045] 24 w1) (by omega) (by omega))
  clear hL
  go_wp2_with (fail)
  refine (place_live hL1.out 0 _ 1 1 [1090519045] hW1.out (by simp)).mono ?_; rintro e w2 ⟨rfl, hL2⟩
  replace hL2 : Live w B ⟨[1090519045], A.none', 0, 0, [], []⟩ w2 := hL2
  clear hL1 hW1
  replace hL2 := Lib.hid hL2
  go_wp2_with (fail)
  refine (step_live hL2.out (by simp)).mono ?_; rintro e w3 ⟨rfl, hL3⟩
  rw [X.first] at hL3 ⊢
  replace hL3 := Lib.hid hL3
  clear hL2
  go_wp2_with (fail)
  refine (regs_live hL3.out).mono ?_; rintro e w4 ⟨rfl, hK4⟩
  have hL4 := Lib.hid (hL3.out.kept hK4)
  clear hL3 hK4
  have hf := A.field_R (A.show' (A.set A.none' 1 5) 5)
  have hi : ∀ W, (Instr.index 25 (.agg ((A.cells (A.show' (A.set A.none' 1 5) 5)).extract 0 16)) (.int .i64 1)).run Try.prog W = .ok (.int .u32 5) W := A.index_R (A.show' (A.set A.none' 1 5) 5) 1 (by omega)
  generalize A.show' (A.set A.none' 1 5) 5 = s5 at *
  generalize (A.cells s5).extract 0 16 = c5 at *
  go_wp2_with (fail)
  refine (pc_live hL4.out).mono ?_; rintro e w5 ⟨rfl, rfl⟩
  go_wp2
  go_ret
  exact ⟨rfl, ⟨hL4.out.below.os, hL4.out.below.tape, hL4.out.below.output, hL4.out.below.size, fun k hk _ => hL4.out.below.block k hk⟩⟩
end Go.Proofs.Ytlmddkciamdldaa

/-
  The document's examples; Encode and Decode by the letters of what they answer.
-/
namespace Go.Proofs.Ytlmddkciamdldaa
open Go.RowKit
set_option linter.unusedVariables false
set_option linter.unusedSimpArgs false
set_option maxRecDepth 100000
/-- Encode of an instruction that may be -/
theorem enc_to (k op a b c i r : Int) (u : Bool) (h : I.May ⟨k, op, a, b, c, i, u⟩) (hr : I.word ⟨k, op, a, b, c, i, u⟩ = r) (w : World) :
    Calls Try.prog 9 #[.agg #[.int .i64 k, .int .i64 op, .int .i64 a, .int .i64 b, .int .i64 c, .int .i64 i, .bool u]] w fun e w' => e = .returned (.tuple #[.int .u32 r, .int .i64 0]) ∧ Kept w w' := by
  have e1 : I.may ⟨k, op, a, b, c, i, u⟩ = true := decide_eq_true h
  have C := enc_any k op a b c i u w
  simp only [I.enc, I.err, e1, reduceIte, hr] at C
  exact C
end Go.Proofs.Ytlmddkciamdldaa

/-
  The contract of Fit: an instruction that may be.
-/
namespace Go.Proofs.Ytlmddkciamdldaa
open Go.RowKit
set_option linter.unusedVariables false
set_option linter.unusedSimpArgs false
set_option maxRecDepth 100000
set_option maxHeartbeats 1000000 in
theorem fit_1_1f (k op a b c i A B C O O3 O15 M16 M17 M20 M24 : Int)
    (EK : wrap64 (1 + (wrap64 (k.tmod 7 + 7)).tmod 7) = 1) (EO : (wrap64 (op.tmod 12 + 12)).tmod 12 = 0)
    (EA : bits .and .i64 a 15 = A) (EB : bits .and .i64 b 15 = B) (EC : bits .and .i64 c 15 = C) (E3 : bits .and .i64 op 3 = O3) (E15 : bits .and .i64 op 15 = O15)
    (E16 : bits .and .i64 i 65535 = M16) (E17 : bits .and .i64 i 131071 = M17) (E20 : bits .and .i64 i 1048575 = M20) (E24 : bits .and .i64 i 16777215 = M24)
    (m170 : 0 ≤ M17) (m171 : M17 ≤ 131071) (m200 : 0 ≤ M20) (m201 : M20 ≤ 1048575) (m240 : 0 ≤ M24) (m241 : M24 ≤ 16777215) (w : World) :
    Calls Try.prog 8 #[.agg #[.int .i64 k, .int .i64 op, .int .i64 a, .int .i64 b, .int .i64 c, .int .i64 i, .bool false]] w fun e w' => e = .returned (.agg #[.int .i64 1, .int .i64 0, .int .i64 A, .int .i64 0, .int .i64 C, .int .i64 0, .bool false]) ∧ Kept w w' := by
  go_enter Try.func8, Try.ntmps8
  go_wp2_with fail
  exact bodyPost_ret (v := .agg #[.int .i64 1, .int .i64 0, .int .i64 A, .int .i64 0, .int .i64 C, .int .i64 0, .bool false]) (by simp [results, Try.results8, go_sem]) rfl ⟨rfl, (((Kept.refl w).alloc _ _).alloc _ _).alloc _ _⟩
set_option maxHeartbeats 1000000 in
theorem fit_1_1t (k op a b c i A B C O O3 O15 M16 M17 M20 M24 : Int)
    (EK : wrap64 (1 + (wrap64 (k.tmod 7 + 7)).tmod 7) = 1) (EO : (wrap64 (op.tmod 12 + 12)).tmod 12 = 0)
    (EA : bits .and .i64 a 15 = A) (EB : bits .and .i64 b 15 = B) (EC : bits .and .i64 c 15 = C) (E3 : bits .and .i64 op 3 = O3) (E15 : bits .and .i64 op 15 = O15)
    (E16 : bits .and .i64 i 65535 = M16) (E17 : bits .and .i64 i 131071 = M17) (E20 : bits .and .i64 i 1048575 = M20) (E24 : bits .and .i64 i 16777215 = M24)
    (m170 : 0 ≤ M17) (m171 : M17 ≤ 131071) (m200 : 0 ≤ M20) (m201 : M20 ≤ 1048575) (m240 : 0 ≤ M24) (m241 : M24 ≤ 16777215) (w : World) :
    Calls Try.prog 8 #[.agg #[.int .i64 k, .int .i64 op, .int .i64 a, .int .i64 b, .int .i64 c, .int .i64 i, .bool true]] w fun e w' => e = .returned (.agg #[.int .i64 1, .int .i64 0, .int .i64 A, .int .i64 0, .int .i64 C, .int .i64 0, .bool false]) ∧ Kept w w' := by
  go_enter Try.func8, Try.ntmps8
  go_wp2_with fail
  exact bodyPost_ret (v := .agg #[.int .i64 1, .int .i64 0, .int .i64 A, .int .i64 0, .int .i64 C, .int .i64 0, .bool false]) (by simp [results, Try.results8, go_sem]) rfl ⟨rfl, (((Kept.refl w).alloc _ _).alloc _ _).alloc _ _⟩
set_option maxHeartbeats 1000000 in
theorem fit_1_2f (k op a b c i A B C O O3 O15 M16 M17 M20 M24 : Int)
    (EK : wrap64 (1 + (wrap64 (k.tmod 7 + 7)).tmod 7) = 1) (EO : (wrap64 (op.tmod 12 + 12)).tmod 12 = O)
    (EA : bits .and .i64 a 15 = A) (EB : bits .and .i64 b 15 = B) (EC : bits .and .i64 c 15 = C) (E3 : bits .and .i64 op 3 = O3) (E15 : bits .and .i64 op 15 = O15)
    (E16 : bits .and .i64 i 65535 = M16) (E17 : bits .and .i64 i 131071 = M17) (E20 : bits .and .i64 i 1048575 = M20) (E24 : bits .and .i64 i 16777215 = M24)
    (m170 : 0 ≤ M17) (m171 : M17 ≤ 131071) (m200 : 0 ≤ M20) (m201 : M20 ≤ 1048575) (m240 : 0 ≤ M24) (m241 : M24 ≤ 16777215) (o0 : 1 ≤ O) (o1 : O < 8) (oz : ¬ O = 0) (w : World) :
    Calls Try.prog 8 #[.agg #[.int .i64 k, .int .i64 op, .int .i64 a, .int .i64 b, .int .i64 c, .int .i64 i, .bool false]] w fun e w' => e = .returned (.agg #[.int .i64 1, .int .i64 O, .int .i64 A, .int .i64 B, .int .i64 C, .int .i64 0, .bool false]) ∧ Kept w w' := by
  go_enter Try.func8, Try.ntmps8
  go_wp2_with fail
  exact bodyPost_ret (v := .agg #[.int .i64 1, .int .i64 O, .int .i64 A, .int .i64 B, .int .i64 C, .int .i64 0, .bool false]) (by simp [results, Try.results8, go_sem]) rfl ⟨rfl, (((Kept.refl w).alloc _ _).alloc _ _).alloc _ _⟩
set_option maxHeartbeats 1000000 in
theorem fit_1_2t (k op a b c i A B C O O3 O15 M16 M17 M20 M24 : Int)
    (EK : wrap64 (1 + (wrap64 (k.tmod 7 + 7)).tmod 7) = 1) (EO : (wrap64 (op.tmod 12 + 12)).tmod 12 = O)
    (EA : bits .and .i64 a 15 = A) (EB : bits .and .i64 b 15 = B) (EC : bits .and .i64 c 15 = C) (E3 : bits .and .i64 op 3 = O3) (E15 : bits .and .i64 op 15 = O15)
    (E16 : bits .and .i64 i 65535 = M16) (E17 : bits .and .i64 i 131071 = M17) (E20 : bits .and .i64 i 1048575 = M20) (E24 : bits .and .i64 i 16777215 = M24)
    (m170 : 0 ≤ M17) (m171 : M17 ≤ 131071) (m200 : 0 ≤ M20) (m201 : M20 ≤ 1048575) (m240 : 0 ≤ M24) (m241 : M24 ≤ 16777215) (o0 : 1 ≤ O) (o1 : O < 8) (oz : ¬ O = 0) (w : World) :
    Calls Try.prog 8 #[.agg #[.int .i64 k, .int .i64 op, .int .i64 a, .int .i64 b, .int .i64 c, .int .i64 i, .bool true]] w fun e w' => e = .returned (.agg #[.int .i64 1, .int .i64 O, .int .i64 A, .int .i64 B, .int .i64 C, .int .i64 0, .bool false]) ∧ Kept w w' := by
  go_enter Try.func8, Try.ntmps8
  go_wp2_with fail
  exact bodyPost_ret (v := .agg #[.int .i64 1, .int .i64 O, .int .i64 A, .int .i64 B, .int .i64 C, .int .i64 0, .bool false]) (by simp [results, Try.results8, go_sem]) rfl ⟨rfl, (((Kept.refl w).alloc _ _).alloc _ _).alloc _ _⟩
set_option maxHeartbeats 1000000 in
theorem fit_1_3f (k op a b c i A B C O O3 O15 M16 M17 M20 M24 : Int)
    (EK : wrap64 (1 + (wrap64 (k.tmod 7 + 7)).tmod 7) = 1) (EO : (wrap64 (op.tmod 12 + 12)).tmod 12 = O)
    (EA : bits .and .i64 a 15 = A) (EB : bits .and .i64 b 15 = B) (EC : bits .and .i64 c 15 = C) (E3 : bits .and .i64 op 3 = O3) (E15 : bits .and .i64 op 15 = O15)
    (E16 : bits .and .i64 i 65535 = M16) (E17 : bits .and .i64 i 131071 = M17) (E20 : bits .and .i64 i 1048575 = M20) (E24 : bits .and .i64 i 16777215 = M24)
    (m170 : 0 ≤ M17) (m171 : M17 ≤ 131071) (m200 : 0 ≤ M20) (m201 : M20 ≤ 1048575) (m240 : 0 ≤ M24) (m241 : M24 ≤ 16777215) (o0 : 8 ≤ O) (o1 : O ≤ 10) (oz : ¬ O = 0) (w : World) :
    Calls Try.prog 8 #[.agg #[.int .i64 k, .int .i64 op, .int .i64 a, .int .i64 b, .int .i64 c, .int .i64 i, .bool false]] w fun e w' => e = .returned (.agg #[.int .i64 1, .int .i64 O, .int .i64 A, .int .i64 B, .int .i64 C, .int .i64 0, .bool false]) ∧ Kept w w' := by
  go_enter Try.func8, Try.ntmps8
  go_wp2_with fail
  exact bodyPost_ret (v := .agg #[.int .i64 1, .int .i64 O, .int .i64 A, .int .i64 B, .int .i64 C, .int .i64 0, .bool false]) (by simp [results, Try.results8, go_sem]) rfl ⟨rfl, (((Kept.refl w).alloc _ _).alloc _ _).alloc _ _⟩
set_option maxHeartbeats 1000000 in
theorem fit_1_3t (k op a b c i A B C O O3 O15 M16 M17 M20 M24 : Int)
    (EK : wrap64 (1 + (wrap64 (k.tmod 7 + 7)).tmod 7) = 1) (EO : (wrap64 (op.tmod 12 + 12)).tmod 12 = O)
    (EA : bits .and .i64 a 15 = A) (EB : bits .and .i64 b 15 = B) (EC : bits .and .i64 c 15 = C) (E3 : bits .and .i64 op 3 = O3) (E15 : bits .and .i64 op 15 = O15)
    (E16 : bits .and .i64 i 65535 = M16) (E17 : bits .and .i64 i 131071 = M17) (E20 : bits .and .i64 i 1048575 = M20) (E24 : bits .and .i64 i 16777215 = M24)
    (m170 : 0 ≤ M17) (m171 : M17 ≤ 131071) (m200 : 0 ≤ M20) (m201 : M20 ≤ 1048575) (m240 : 0 ≤ M24) (m241 : M24 ≤ 16777215) (o0 : 8 ≤ O) (o1 : O ≤ 10) (oz : ¬ O = 0) (w : World) :
    Calls Try.prog 8 #[.agg #[.int .i64 k, .int .i64 op, .int .i64 a, .int .i64 b, .int .i64 c, .int .i64 i, .bool true]] w fun e w' => e = .returned (.agg #[.int .i64 1, .int .i64 O, .int .i64 A, .int .i64 B, .int .i64 C, .int .i64 0, .bool true]) ∧ Kept w w' := by
  go_enter Try.func8, Try.ntmps8
  go_wp2_with fail
  exact bodyPost_ret (v := .agg #[.int .i64 1, .int .i64 O, .int .i64 A, .int .i64 B, .int .i64 C, .int .i64 0, .bool true]) (by simp [results, Try.results8, go_sem]) rfl ⟨rfl, (((Kept.refl w).alloc _ _).alloc _ _).alloc _ _⟩
set_option maxHeartbeats 1000000 in
theorem fit_1_4f (k op a b c i A B C O O3 O15 M16 M17 M20 M24 : Int)
    (EK : wrap64 (1 + (wrap64 (k.tmod 7 + 7)).tmod 7) = 1) (EO : (wrap64 (op.tmod 12 + 12)).tmod 12 = 11)
    (EA : bits .and .i64 a 15 = A) (EB : bits .and .i64 b 15 = B) (EC : bits .and .i64 c 15 = C) (E3 : bits .and .i64 op 3 = O3) (E15 : bits .and .i64 op 15 = O15)
    (E16 : bits .and .i64 i 65535 = M16) (E17 : bits .and .i64 i 131071 = M17) (E20 : bits .and .i64 i 1048575 = M20) (E24 : bits .and .i64 i 16777215 = M24)
    (m170 : 0 ≤ M17) (m171 : M17 ≤ 131071) (m200 : 0 ≤ M20) (m201 : M20 ≤ 1048575) (m240 : 0 ≤ M24) (m241 : M24 ≤ 16777215) (w : World) :
    Calls Try.prog 8 #[.agg #[.int .i64 k, .int .i64 op, .int .i64 a, .int .i64 b, .int .i64 c, .int .i64 i, .bool false]] w fun e w' => e = .returned (.agg #[.int .i64 1, .int .i64 11, .int .i64 A, .int .i64 B, .int .i64 C, .int .i64 0, .bool false]) ∧ Kept w w' := by
  go_enter Try.func8, Try.ntmps8
  go_wp2_with fail
  exact bodyPost_ret (v := .agg #[.int .i64 1, .int .i64 11, .int .i64 A, .int .i64 B, .int .i64 C, .int .i64 0, .bool false]) (by simp [results, Try.results8, go_sem]) rfl ⟨rfl, (((Kept.refl w).alloc _ _).alloc _ _).alloc _ _⟩
set_option maxHeartbeats 1000000 in
theorem fit_1_4t (k op a b c i A B C O O3 O15 M16 M17 M20 M24 : Int)
    (EK : wrap64 (1 + (wrap64 (k.tmod 7 + 7)).tmod 7) = 1) (EO : (wrap64 (op.tmod 12 + 12)).tmod 12 = 11)
    (EA : bits .and .i64 a 15 = A) (EB : bits .and .i64 b 15 = B) (EC : bits .and .i64 c 15 = C) (E3 : bits .and .i64 op 3 = O3) (E15 : bits .and .i64 op 15 = O15)
    (E16 : bits .and .i64 i 65535 = M16) (E17 : bits .and .i64 i 131071 = M17) (E20 : bits .and .i64 i 1048575 = M20) (E24 : bits .and .i64 i 16777215 = M24)
    (m170 : 0 ≤ M17) (m171 : M17 ≤ 131071) (m200 : 0 ≤ M20) (m201 : M20 ≤ 1048575) (m240 : 0 ≤ M24) (m241 : M24 ≤ 16777215) (w : World) :
    Calls Try.prog 8 #[.agg #[.int .i64 k, .int .i64 op, .int .i64 a, .int .i64 b, .int .i64 c, .int .i64 i, .bool true]] w fun e w' => e = .returned (.agg #[.int .i64 1, .int .i64 11, .int .i64 A, .int .i64 B, .int .i64 C, .int .i64 0, .bool false]) ∧ Kept w w' := by
  go_enter Try.func8, Try.ntmps8
  go_wp2_with fail
  exact bodyPost_ret (v := .agg #[.int .i64 1, .int .i64 11, .int .i64 A, .int .i64 B, .int .i64 C, .int .i64 0, .bool false]) (by simp [results, Try.results8, go_sem]) rfl ⟨rfl, (((Kept.refl w).alloc _ _).alloc _ _).alloc _ _⟩
set_option maxHeartbeats 1000000 in
theorem fit_2_1f (k op a b c i A B C O O3 O15 M16 M17 M20 M24 : Int)
    (EK : wrap64 (1 + (wrap64 (k.tmod 7 + 7)).tmod 7) = 2) (EO : (wrap64 (op.tmod 12 + 12)).tmod 12 = 0)
    (EA : bits .and .i64 a 15 = A) (EB : bits .and .i64 b 15 = B) (EC : bits .and .i64 c 15 = C) (E3 : bits .and .i64 op 3 = O3) (E15 : bits .and .i64 op 15 = O15)
    (E16 : bits .and .i64 i 65535 = M16) (E17 : bits .and .i64 i 131071 = M17) (E20 : bits .and .i64 i 1048575 = M20) (E24 : bits .and .i64 i 16777215 = M24)
    (m170 : 0 ≤ M17) (m171 : M17 ≤ 131071) (m200 : 0 ≤ M20) (m201 : M20 ≤ 1048575) (m240 : 0 ≤ M24) (m241 : M24 ≤ 16777215) (w : World) :
    Calls Try.prog 8 #[.agg #[.int .i64 k, .int .i64 op, .int .i64 a, .int .i64 b, .int .i64 c, .int .i64 i, .bool false]] w fun e w' => e = .returned (.agg #[.int .i64 2, .int .i64 0, .int .i64 A, .int .i64 0, .int .i64 0, .int .i64 (M17 - 65536), .bool false]) ∧ Kept w w' := by
  go_enter Try.func8, Try.ntmps8
  go_wp2_with fail
  exact bodyPost_ret (v := .agg #[.int .i64 2, .int .i64 0, .int .i64 A, .int .i64 0, .int .i64 0, .int .i64 (M17 - 65536), .bool false]) (by simp [results, Try.results8, go_sem]) rfl ⟨rfl, (((Kept.refl w).alloc _ _).alloc _ _).alloc _ _⟩
set_option maxHeartbeats 1000000 in
theorem fit_2_1t (k op a b c i A B C O O3 O15 M16 M17 M20 M24 : Int)
    (EK : wrap64 (1 + (wrap64 (k.tmod 7 + 7)).tmod 7) = 2) (EO : (wrap64 (op.tmod 12 + 12)).tmod 12 = 0)
    (EA : bits .and .i64 a 15 = A) (EB : bits .and .i64 b 15 = B) (EC : bits .and .i64 c 15 = C) (E3 : bits .and .i64 op 3 = O3) (E15 : bits .and .i64 op 15 = O15)
    (E16 : bits .and .i64 i 65535 = M16) (E17 : bits .and .i64 i 131071 = M17) (E20 : bits .and .i64 i 1048575 = M20) (E24 : bits .and .i64 i 16777215 = M24)
    (m170 : 0 ≤ M17) (m171 : M17 ≤ 131071) (m200 : 0 ≤ M20) (m201 : M20 ≤ 1048575) (m240 : 0 ≤ M24) (m241 : M24 ≤ 16777215) (w : World) :
    Calls Try.prog 8 #[.agg #[.int .i64 k, .int .i64 op, .int .i64 a, .int .i64 b, .int .i64 c, .int .i64 i, .bool true]] w fun e w' => e = .returned (.agg #[.int .i64 2, .int .i64 0, .int .i64 A, .int .i64 0, .int .i64 0, .int .i64 M16, .bool true]) ∧ Kept w w' := by
  go_enter Try.func8, Try.ntmps8
  go_wp2_with fail
  exact bodyPost_ret (v := .agg #[.int .i64 2, .int .i64 0, .int .i64 A, .int .i64 0, .int .i64 0, .int .i64 M16, .bool true]) (by simp [results, Try.results8, go_sem]) rfl ⟨rfl, (((Kept.refl w).alloc _ _).alloc _ _).alloc _ _⟩
set_option maxHeartbeats 1000000 in
theorem fit_2_2f (k op a b c i A B C O O3 O15 M16 M17 M20 M24 : Int)
    (EK : wrap64 (1 + (wrap64 (k.tmod 7 + 7)).tmod 7) = 2) (EO : (wrap64 (op.tmod 12 + 12)).tmod 12 = O)
    (EA : bits .and .i64 a 15 = A) (EB : bits .and .i64 b 15 = B) (EC : bits .and .i64 c 15 = C) (E3 : bits .and .i64 op 3 = O3) (E15 : bits .and .i64 op 15 = O15)
    (E16 : bits .and .i64 i 65535 = M16) (E17 : bits .and .i64 i 131071 = M17) (E20 : bits .and .i64 i 1048575 = M20) (E24 : bits .and .i64 i 16777215 = M24)
    (m170 : 0 ≤ M17) (m171 : M17 ≤ 131071) (m200 : 0 ≤ M20) (m201 : M20 ≤ 1048575) (m240 : 0 ≤ M24) (m241 : M24 ≤ 16777215) (o0 : 1 ≤ O) (o1 : O < 8) (oz : ¬ O = 0) (w : World) :
    Calls Try.prog 8 #[.agg #[.int .i64 k, .int .i64 op, .int .i64 a, .int .i64 b, .int .i64 c, .int .i64 i, .bool false]] w fun e w' => e = .returned (.agg #[.int .i64 2, .int .i64 O, .int .i64 A, .int .i64 B, .int .i64 0, .int .i64 (M17 - 65536), .bool false]) ∧ Kept w w' := by
  go_enter Try.func8, Try.ntmps8
  go_wp2_with fail
  exact bodyPost_ret (v := .agg #[.int .i64 2, .int .i64 O, .int .i64 A, .int .i64 B, .int .i64 0, .int .i64 (M17 - 65536), .bool false]) (by simp [results, Try.results8, go_sem]) rfl ⟨rfl, (((Kept.refl w).alloc _ _).alloc _ _).alloc _ _⟩
set_option maxHeartbeats 1000000 in
theorem fit_2_2t (k op a b c i A B C O O3 O15 M16 M17 M20 M24 : Int)
    (EK : wrap64 (1 + (wrap64 (k.tmod 7 + 7)).tmod 7) = 2) (EO : (wrap64 (op.tmod 12 + 12)).tmod 12 = O)
    (EA : bits .and .i64 a 15 = A) (EB : bits .and .i64 b 15 = B) (EC : bits .and .i64 c 15 = C) (E3 : bits .and .i64 op 3 = O3) (E15 : bits .and .i64 op 15 = O15)
    (E16 : bits .and .i64 i 65535 = M16) (E17 : bits .and .i64 i 131071 = M17) (E20 : bits .and .i64 i 1048575 = M20) (E24 : bits .and .i64 i 16777215 = M24)
    (m170 : 0 ≤ M17) (m171 : M17 ≤ 131071) (m200 : 0 ≤ M20) (m201 : M20 ≤ 1048575) (m240 : 0 ≤ M24) (m241 : M24 ≤ 16777215) (o0 : 1 ≤ O) (o1 : O < 8) (oz : ¬ O = 0) (w : World) :
    Calls Try.prog 8 #[.agg #[.int .i64 k, .int .i64 op, .int .i64 a, .int .i64 b, .int .i64 c, .int .i64 i, .bool true]] w fun e w' => e = .returned (.agg #[.int .i64 2, .int .i64 O, .int .i64 A, .int .i64 B, .int .i64 0, .int .i64 (M17 - 65536), .bool false]) ∧ Kept w w' := by
  go_enter Try.func8, Try.ntmps8
  go_wp2_with fail
  exact bodyPost_ret (v := .agg #[.int .i64 2, .int .i64 O, .int .i64 A, .int .i64 B, .int .i64 0, .int .i64 (M17 - 65536), .bool false]) (by simp [results, Try.results8, go_sem]) rfl ⟨rfl, (((Kept.refl w).alloc _ _).alloc _ _).alloc _ _⟩
set_option maxHeartbeats 1000000 in
theorem fit_2_3f (k op a b c i A B C O O3 O15 M16 M17 M20 M24 : Int)
    (EK : wrap64 (1 + (wrap64 (k.tmod 7 + 7)).tmod 7) = 2) (EO : (wrap64 (op.tmod 12 + 12)).tmod 12 = O)
    (EA : bits .and .i64 a 15 = A) (EB : bits .and .i64 b 15 = B) (EC : bits .and .i64 c 15 = C) (E3 : bits .and .i64 op 3 = O3) (E15 : bits .and .i64 op 15 = O15)
    (E16 : bits .and .i64 i 65535 = M16) (E17 : bits .and .i64 i 131071 = M17) (E20 : bits .and .i64 i 1048575 = M20) (E24 : bits .and .i64 i 16777215 = M24)
    (m170 : 0 ≤ M17) (m171 : M17 ≤ 131071) (m200 : 0 ≤ M20) (m201 : M20 ≤ 1048575) (m240 : 0 ≤ M24) (m241 : M24 ≤ 16777215) (o0 : 8 ≤ O) (o1 : O ≤ 10) (oz : ¬ O = 0) (w : World) :
    Calls Try.prog 8 #[.agg #[.int .i64 k, .int .i64 op, .int .i64 a, .int .i64 b, .int .i64 c, .int .i64 i, .bool false]] w fun e w' => e = .returned (.agg #[.int .i64 2, .int .i64 O, .int .i64 A, .int .i64 B, .int .i64 0, .int .i64 (M17 - 65536), .bool false]) ∧ Kept w w' := by
  go_enter Try.func8, Try.ntmps8
  go_wp2_with fail
  exact bodyPost_ret (v := .agg #[.int .i64 2, .int .i64 O, .int .i64 A, .int .i64 B, .int .i64 0, .int .i64 (M17 - 65536), .bool false]) (by simp [results, Try.results8, go_sem]) rfl ⟨rfl, (((Kept.refl w).alloc _ _).alloc _ _).alloc _ _⟩
set_option maxHeartbeats 1000000 in
theorem fit_2_3t (k op a b c i A B C O O3 O15 M16 M17 M20 M24 : Int)
    (EK : wrap64 (1 + (wrap64 (k.tmod 7 + 7)).tmod 7) = 2) (EO : (wrap64 (op.tmod 12 + 12)).tmod 12 = O)
    (EA : bits .and .i64 a 15 = A) (EB : bits .and .i64 b 15 = B) (EC : bits .and .i64 c 15 = C) (E3 : bits .and .i64 op 3 = O3) (E15 : bits .and .i64 op 15 = O15)
    (E16 : bits .and .i64 i 65535 = M16) (E17 : bits .and .i64 i 131071 = M17) (E20 : bits .and .i64 i 1048575 = M20) (E24 : bits .and .i64 i 16777215 = M24)
    (m170 : 0 ≤ M17) (m171 : M17 ≤ 131071) (m200 : 0 ≤ M20) (m201 : M20 ≤ 1048575) (m240 : 0 ≤ M24) (m241 : M24 ≤ 16777215) (o0 : 8 ≤ O) (o1 : O ≤ 10) (oz : ¬ O = 0) (w : World) :
    Calls Try.prog 8 #[.agg #[.int .i64 k, .int .i64 op, .int .i64 a, .int .i64 b, .int .i64 c, .int .i64 i, .bool true]] w fun e w' => e = .returned (.agg #[.int .i64 2, .int .i64 O, .int .i64 A, .int .i64 B, .int .i64 0, .int .i64 (M17 - 65536), .bool true]) ∧ Kept w w' := by
  go_enter Try.func8, Try.ntmps8
  go_wp2_with fail
  exact bodyPost_ret (v := .agg #[.int .i64 2, .int .i64 O, .int .i64 A, .int .i64 B, .int .i64 0, .int .i64 (M17 - 65536), .bool true]) (by simp [results, Try.results8, go_sem]) rfl ⟨rfl, (((Kept.refl w).alloc _ _).alloc _ _).alloc _ _⟩
set_option maxHeartbeats 1000000 in
theorem fit_2_4f (k op a b c i A B C O O3 O15 M16 M17 M20 M24 : Int)
    (EK : wrap64 (1 + (wrap64 (k.tmod 7 + 7)).tmod 7) = 2) (EO : (wrap64 (op.tmod 12 + 12)).tmod 12 = 11)
    (EA : bits .and .i64 a 15 = A) (EB : bits .and .i64 b 15 = B) (EC : bits .and .i64 c 15 = C) (E3 : bits .and .i64 op 3 = O3) (E15 : bits .and .i64 op 15 = O15)
    (E16 : bits .and .i64 i 65535 = M16) (E17 : bits .and .i64 i 131071 = M17) (E20 : bits .and .i64 i 1048575 = M20) (E24 : bits .and .i64 i 16777215 = M24)
    (m170 : 0 ≤ M17) (m171 : M17 ≤ 131071) (m200 : 0 ≤ M20) (m201 : M20 ≤ 1048575) (m240 : 0 ≤ M24) (m241 : M24 ≤ 16777215) (w : World) :
    Calls Try.prog 8 #[.agg #[.int .i64 k, .int .i64 op, .int .i64 a, .int .i64 b, .int .i64 c, .int .i64 i, .bool false]] w fun e w' => e = .returned (.agg #[.int .i64 2, .int .i64 11, .int .i64 A, .int .i64 B, .int .i64 0, .int .i64 (M17 - 65536), .bool false]) ∧ Kept w w' := by
  go_enter Try.func8, Try.ntmps8
  go_wp2_with fail
  exact bodyPost_ret (v := .agg #[.int .i64 2, .int .i64 11, .int .i64 A, .int .i64 B, .int .i64 0, .int .i64 (M17 - 65536), .bool false]) (by simp [results, Try.results8, go_sem]) rfl ⟨rfl, (((Kept.refl w).alloc _ _).alloc _ _).alloc _ _⟩
set_option maxHeartbeats 1000000 in
theorem fit_2_4t (k op a b c i A B C O O3 O15 M16 M17 M20 M24 : Int)
    (EK : wrap64 (1 + (wrap64 (k.tmod 7 + 7)).tmod 7) = 2) (EO : (wrap64 (op.tmod 12 + 12)).tmod 12 = 11)
    (EA : bits .and .i64 a 15 = A) (EB : bits .and .i64 b 15 = B) (EC : bits .and .i64 c 15 = C) (E3 : bits .and .i64 op 3 = O3) (E15 : bits .and .i64 op 15 = O15)
    (E16 : bits .and .i64 i 65535 = M16) (E17 : bits .and .i64 i 131071 = M17) (E20 : bits .and .i64 i 1048575 = M20) (E24 : bits .and .i64 i 16777215 = M24)
    (m170 : 0 ≤ M17) (m171 : M17 ≤ 131071) (m200 : 0 ≤ M20) (m201 : M20 ≤ 1048575) (m240 : 0 ≤ M24) (m241 : M24 ≤ 16777215) (w : World) :
    Calls Try.prog 8 #[.agg #[.int .i64 k, .int .i64 op, .int .i64 a, .int .i64 b, .int .i64 c, .int .i64 i, .bool true]] w fun e w' => e = .returned (.agg #[.int .i64 2, .int .i64 11, .int .i64 A, .int .i64 B, .int .i64 0, .int .i64 (M17 - 65536), .bool false]) ∧ Kept w w' := by
  go_enter Try.func8, Try.ntmps8
  go_wp2_with fail
  exact bodyPost_ret (v := .agg #[.int .i64 2, .int .i64 11, .int .i64 A, .int .i64 B, .int .i64 0, .int .i64 (M17 - 65536), .bool false]) (by simp [results, Try.results8, go_sem]) rfl ⟨rfl, (((Kept.refl w).alloc _ _).alloc _ _).alloc _ _⟩
set_option maxHeartbeats 1000000 in
theorem fit_3 (k op a b c i A B C O O3 O15 M16 M17 M20 M24 : Int) (u : Bool)
    (EK : wrap64 (1 + (wrap64 (k.tmod 7 + 7)).tmod 7) = 3) (EO : (wrap64 (op.tmod 12 + 12)).tmod 12 = O)
    (EA : bits .and .i64 a 15 = A) (EB : bits .and .i64 b 15 = B) (EC : bits .and .i64 c 15 = C) (E3 : bits .and .i64 op 3 = O3) (E15 : bits .and .i64 op 15 = O15)
    (E16 : bits .and .i64 i 65535 = M16) (E17 : bits .and .i64 i 131071 = M17) (E20 : bits .and .i64 i 1048575 = M20) (E24 : bits .and .i64 i 16777215 = M24)
    (m170 : 0 ≤ M17) (m171 : M17 ≤ 131071) (m200 : 0 ≤ M20) (m201 : M20 ≤ 1048575) (m240 : 0 ≤ M24) (m241 : M24 ≤ 16777215) (w : World) :
    Calls Try.prog 8 #[.agg #[.int .i64 k, .int .i64 op, .int .i64 a, .int .i64 b, .int .i64 c, .int .i64 i, .bool u]] w fun e w' => e = .returned (.agg #[.int .i64 3, .int .i64 0, .int .i64 A, .int .i64 0, .int .i64 0, .int .i64 0, .bool false]) ∧ Kept w w' := by
  go_enter Try.func8, Try.ntmps8
  go_wp2_with fail
  exact bodyPost_ret (v := .agg #[.int .i64 3, .int .i64 0, .int .i64 A, .int .i64 0, .int .i64 0, .int .i64 0, .bool false]) (by simp [results, Try.results8, go_sem]) rfl ⟨rfl, (((Kept.refl w).alloc _ _).alloc _ _).alloc _ _⟩
set_option maxHeartbeats 1000000 in
theorem fit_4 (k op a b c i A B C O O3 O15 M16 M17 M20 M24 : Int) (u : Bool)
    (EK : wrap64 (1 + (wrap64 (k.tmod 7 + 7)).tmod 7) = 4) (EO : (wrap64 (op.tmod 12 + 12)).tmod 12 = O)
    (EA : bits .and .i64 a 15 = A) (EB : bits .and .i64 b 15 = B) (EC : bits .and .i64 c 15 = C) (E3 : bits .and .i64 op 3 = O3) (E15 : bits .and .i64 op 15 = O15)
    (E16 : bits .and .i64 i 65535 = M16) (E17 : bits .and .i64 i 131071 = M17) (E20 : bits .and .i64 i 1048575 = M20) (E24 : bits .and .i64 i 16777215 = M24)
    (m170 : 0 ≤ M17) (m171 : M17 ≤ 131071) (m200 : 0 ≤ M20) (m201 : M20 ≤ 1048575) (m240 : 0 ≤ M24) (m241 : M24 ≤ 16777215) (w : World) :
    Calls Try.prog 8 #[.agg #[.int .i64 k, .int .i64 op, .int .i64 a, .int .i64 b, .int .i64 c, .int .i64 i, .bool u]] w fun e w' => e = .returned (.agg #[.int .i64 4, .int .i64 0, .int .i64 A, .int .i64 0, .int .i64 0, .int .i64 0, .bool false]) ∧ Kept w w' := by
  go_enter Try.func8, Try.ntmps8
  go_wp2_with fail
  exact bodyPost_ret (v := .agg #[.int .i64 4, .int .i64 0, .int .i64 A, .int .i64 0, .int .i64 0, .int .i64 0, .bool false]) (by simp [results, Try.results8, go_sem]) rfl ⟨rfl, (((Kept.refl w).alloc _ _).alloc _ _).alloc _ _⟩
set_option maxHeartbeats 1000000 in
theorem fit_5 (k op a b c i A B C O O3 O15 M16 M17 M20 M24 : Int) (u : Bool)
    (EK : wrap64 (1 + (wrap64 (k.tmod 7 + 7)).tmod 7) = 5) (EO : (wrap64 (op.tmod 12 + 12)).tmod 12 = O)
    (EA : bits .and .i64 a 15 = A) (EB : bits .and .i64 b 15 = B) (EC : bits .and .i64 c 15 = C) (E3 : bits .and .i64 op 3 = O3) (E15 : bits .and .i64 op 15 = O15)
    (E16 : bits .and .i64 i 65535 = M16) (E17 : bits .and .i64 i 131071 = M17) (E20 : bits .and .i64 i 1048575 = M20) (E24 : bits .and .i64 i 16777215 = M24)
    (m170 : 0 ≤ M17) (m171 : M17 ≤ 131071) (m200 : 0 ≤ M20) (m201 : M20 ≤ 1048575) (m240 : 0 ≤ M24) (m241 : M24 ≤ 16777215) (w : World) :
    Calls Try.prog 8 #[.agg #[.int .i64 k, .int .i64 op, .int .i64 a, .int .i64 b, .int .i64 c, .int .i64 i, .bool u]] w fun e w' => e = .returned (.agg #[.int .i64 5, .int .i64 O3, .int .i64 A, .int .i64 B, .int .i64 0, .int .i64 (M20 - 524288), .bool false]) ∧ Kept w w' := by
  go_enter Try.func8, Try.ntmps8
  go_wp2_with fail
  exact bodyPost_ret (v := .agg #[.int .i64 5, .int .i64 O3, .int .i64 A, .int .i64 B, .int .i64 0, .int .i64 (M20 - 524288), .bool false]) (by simp [results, Try.results8, go_sem]) rfl ⟨rfl, (((Kept.refl w).alloc _ _).alloc _ _).alloc _ _⟩
set_option maxHeartbeats 1000000 in
theorem fit_6 (k op a b c i A B C O O3 O15 M16 M17 M20 M24 : Int) (u : Bool)
    (EK : wrap64 (1 + (wrap64 (k.tmod 7 + 7)).tmod 7) = 6) (EO : (wrap64 (op.tmod 12 + 12)).tmod 12 = O)
    (EA : bits .and .i64 a 15 = A) (EB : bits .and .i64 b 15 = B) (EC : bits .and .i64 c 15 = C) (E3 : bits .and .i64 op 3 = O3) (E15 : bits .and .i64 op 15 = O15)
    (E16 : bits .and .i64 i 65535 = M16) (E17 : bits .and .i64 i 131071 = M17) (E20 : bits .and .i64 i 1048575 = M20) (E24 : bits .and .i64 i 16777215 = M24)
    (m170 : 0 ≤ M17) (m171 : M17 ≤ 131071) (m200 : 0 ≤ M20) (m201 : M20 ≤ 1048575) (m240 : 0 ≤ M24) (m241 : M24 ≤ 16777215) (w : World) :
    Calls Try.prog 8 #[.agg #[.int .i64 k, .int .i64 op, .int .i64 a, .int .i64 b, .int .i64 c, .int .i64 i, .bool u]] w fun e w' => e = .returned (.agg #[.int .i64 6, .int .i64 O15, .int .i64 0, .int .i64 0, .int .i64 C, .int .i64 0, .bool u]) ∧ Kept w w' := by
  go_enter Try.func8, Try.ntmps8
  go_wp2_with fail
  exact bodyPost_ret (v := .agg #[.int .i64 6, .int .i64 O15, .int .i64 0, .int .i64 0, .int .i64 C, .int .i64 0, .bool u]) (by simp [results, Try.results8, go_sem]) rfl ⟨rfl, (((Kept.refl w).alloc _ _).alloc _ _).alloc _ _⟩
set_option maxHeartbeats 1000000 in
theorem fit_7 (k op a b c i A B C O O3 O15 M16 M17 M20 M24 : Int) (u : Bool)
    (EK : wrap64 (1 + (wrap64 (k.tmod 7 + 7)).tmod 7) = 7) (EO : (wrap64 (op.tmod 12 + 12)).tmod 12 = O)
    (EA : bits .and .i64 a 15 = A) (EB : bits .and .i64 b 15 = B) (EC : bits .and .i64 c 15 = C) (E3 : bits .and .i64 op 3 = O3) (E15 : bits .and .i64 op 15 = O15)
    (E16 : bits .and .i64 i 65535 = M16) (E17 : bits .and .i64 i 131071 = M17) (E20 : bits .and .i64 i 1048575 = M20) (E24 : bits .and .i64 i 16777215 = M24)
    (m170 : 0 ≤ M17) (m171 : M17 ≤ 131071) (m200 : 0 ≤ M20) (m201 : M20 ≤ 1048575) (m240 : 0 ≤ M24) (m241 : M24 ≤ 16777215) (w : World) :
    Calls Try.prog 8 #[.agg #[.int .i64 k, .int .i64 op, .int .i64 a, .int .i64 b, .int .i64 c, .int .i64 i, .bool u]] w fun e w' => e = .returned (.agg #[.int .i64 7, .int .i64 O15, .int .i64 0, .int .i64 0, .int .i64 0, .int .i64 (M24 - 8388608), .bool u]) ∧ Kept w w' := by
  go_enter Try.func8, Try.ntmps8
  go_wp2_with fail
  exact bodyPost_ret (v := .agg #[.int .i64 7, .int .i64 O15, .int .i64 0, .int .i64 0, .int .i64 0, .int .i64 (M24 - 8388608), .bool u]) (by simp [results, Try.results8, go_sem]) rfl ⟨rfl, (((Kept.refl w).alloc _ _).alloc _ _).alloc _ _⟩
end Go.Proofs.Ytlmddkciamdldaa

/-
  Fit answers an instruction that may be; the law IsaBack.
-/
namespace Go.Proofs.Ytlmddkciamdldaa
open Go.RowKit
set_option linter.unusedVariables false
set_option linter.unusedSimpArgs false
set_option maxRecDepth 100000
theorem i64_and_2 (n : Int) : bits .and .i64 n 3 = n % 4 := by
  have h : (BitVec.ofInt 64 3).toNat = 2 ^ 2 - 1 := by decide
  have key : (BitVec.ofInt 64 n &&& BitVec.ofInt 64 3).toNat = (n % ((2 ^ 64 : Nat) : Int)).toNat % 2 ^ 2 := by
    rw [BitVec.toNat_and, BitVec.toNat_ofInt, h, Nat.and_two_pow_sub_one_eq_mod]
  show IntKind.i64.wrap ((BitVec.ofInt 64 n &&& BitVec.ofInt 64 3).toNat : Nat) = n % 4
  rw [key, IntKind.wrap_i64]
  omega
theorem i64_and_4 (n : Int) : bits .and .i64 n 15 = n % 16 := by
  have h : (BitVec.ofInt 64 15).toNat = 2 ^ 4 - 1 := by decide
  have key : (BitVec.ofInt 64 n &&& BitVec.ofInt 64 15).toNat = (n % ((2 ^ 64 : Nat) : Int)).toNat % 2 ^ 4 := by
    rw [BitVec.toNat_and, BitVec.toNat_ofInt, h, Nat.and_two_pow_sub_one_eq_mod]
  show IntKind.i64.wrap ((BitVec.ofInt 64 n &&& BitVec.ofInt 64 15).toNat : Nat) = n % 16
  rw [key, IntKind.wrap_i64]
  omega
theorem i64_and_16 (n : Int) : bits .and .i64 n 65535 = n % 65536 := by
  have h : (BitVec.ofInt 64 65535).toNat = 2 ^ 16 - 1 := by decide
  have key : (BitVec.ofInt 64 n &&& BitVec.ofInt 64 65535).toNat = (n % ((2 ^ 64 : Nat) : Int)).toNat % 2 ^ 16 := by
    rw [BitVec.toNat_and, BitVec.toNat_ofInt, h, Nat.and_two_pow_sub_one_eq_mod]
  show IntKind.i64.wrap ((BitVec.ofInt 64 n &&& BitVec.ofInt 64 65535).toNat : Nat) = n % 65536
  rw [key, IntKind.wrap_i64]
  omega
theorem i64_and_17 (n : Int) : bits .and .i64 n 131071 = n % 131072 := by
  have h : (BitVec.ofInt 64 131071).toNat = 2 ^ 17 - 1 := by decide
  have key : (BitVec.ofInt 64 n &&& BitVec.ofInt 64 131071).toNat = (n % ((2 ^ 64 : Nat) : Int)).toNat % 2 ^ 17 := by
    rw [BitVec.toNat_and, BitVec.toNat_ofInt, h, Nat.and_two_pow_sub_one_eq_mod]
  show IntKind.i64.wrap ((BitVec.ofInt 64 n &&& BitVec.ofInt 64 131071).toNat : Nat) = n % 131072
  rw [key, IntKind.wrap_i64]
  omega
theorem i64_and_20 (n : Int) : bits .and .i64 n 1048575 = n % 1048576 := by
  have h : (BitVec.ofInt 64 1048575).toNat = 2 ^ 20 - 1 := by decide
  have key : (BitVec.ofInt 64 n &&& BitVec.ofInt 64 1048575).toNat = (n % ((2 ^ 64 : Nat) : Int)).toNat % 2 ^ 20 := by
    rw [BitVec.toNat_and, BitVec.toNat_ofInt, h, Nat.and_two_pow_sub_one_eq_mod]
  show IntKind.i64.wrap ((BitVec.ofInt 64 n &&& BitVec.ofInt 64 1048575).toNat : Nat) = n % 1048576
  rw [key, IntKind.wrap_i64]
  omega
theorem i64_and_24 (n : Int) : bits .and .i64 n 16777215 = n % 16777216 := by
  have h : (BitVec.ofInt 64 16777215).toNat = 2 ^ 24 - 1 := by decide
  have key : (BitVec.ofInt 64 n &&& BitVec.ofInt 64 16777215).toNat = (n % ((2 ^ 64 : Nat) : Int)).toNat % 2 ^ 24 := by
    rw [BitVec.toNat_and, BitVec.toNat_ofInt, h, Nat.and_two_pow_sub_one_eq_mod]
  show IntKind.i64.wrap ((BitVec.ofInt 64 n &&& BitVec.ofInt 64 16777215).toNat : Nat) = n % 16777216
  rw [key, IntKind.wrap_i64]
  omega
theorem I.tm7 (k : Int) : 1 ≤ wrap64 (1 + (wrap64 (k.tmod 7 + 7)).tmod 7) ∧ wrap64 (1 + (wrap64 (k.tmod 7 + 7)).tmod 7) ≤ 7 := by
  have a := Int.tmod_lt_of_pos k (b := 7) (by omega)
  have b : -7 < k.tmod 7 := by
    have := Int.tmod_lt_of_pos (-k) (b := 7) (by omega)
    rw [Int.neg_tmod] at this
    omega
  generalize k.tmod 7 = t at *
  have e : wrap64 (t + 7) = t + 7 := by unfold wrap64; omega
  rw [e]
  have c := Int.tmod_lt_of_pos (t + 7) (b := 7) (by omega)
  have d := Int.tmod_nonneg 7 (a := t + 7) (by omega)
  generalize (t + 7).tmod 7 = q at *
  unfold wrap64
  omega
theorem I.tm12 (k : Int) : 0 ≤ (wrap64 (k.tmod 12 + 12)).tmod 12 ∧ (wrap64 (k.tmod 12 + 12)).tmod 12 ≤ 11 := by
  have a := Int.tmod_lt_of_pos k (b := 12) (by omega)
  have b : -12 < k.tmod 12 := by
    have := Int.tmod_lt_of_pos (-k) (b := 12) (by omega)
    rw [Int.neg_tmod] at this
    omega
  generalize k.tmod 12 = t at *
  have e : wrap64 (t + 12) = t + 12 := by unfold wrap64; omega
  rw [e]
  have c := Int.tmod_lt_of_pos (t + 12) (b := 12) (by omega)
  have d := Int.tmod_nonneg 12 (a := t + 12) (by omega)
  omega
theorem fit_any (k op a b c i : Int) (u : Bool) : ∃ k' op' a' b' c' i' u', I.May ⟨k', op', a', b', c', i', u'⟩ ∧
    ∀ w, Calls Try.prog 8 #[.agg #[.int .i64 k, .int .i64 op, .int .i64 a, .int .i64 b, .int .i64 c, .int .i64 i, .bool u]] w fun e w' => e = .returned (.agg #[.int .i64 (k'), .int .i64 (op'), .int .i64 (a'), .int .i64 (b'), .int .i64 (c'), .int .i64 (i'), .bool (u')]) ∧ Kept w w' := by
  obtain ⟨K, EK⟩ : ∃ r, wrap64 (1 + (wrap64 (k.tmod 7 + 7)).tmod 7) = r := ⟨_, rfl⟩
  obtain ⟨O, EO⟩ : ∃ r, (wrap64 (op.tmod 12 + 12)).tmod 12 = r := ⟨_, rfl⟩
  have hK := I.tm7 k
  have hO := I.tm12 op
  rw [EK] at hK
  rw [EO] at hO
  obtain ⟨A, EA⟩ : ∃ r, bits .and .i64 a 15 = r := ⟨_, rfl⟩
  obtain ⟨B, EB⟩ : ∃ r, bits .and .i64 b 15 = r := ⟨_, rfl⟩
  obtain ⟨C, EC⟩ : ∃ r, bits .and .i64 c 15 = r := ⟨_, rfl⟩
  obtain ⟨O3, E3⟩ : ∃ r, bits .and .i64 op 3 = r := ⟨_, rfl⟩
  obtain ⟨O15, E15⟩ : ∃ r, bits .and .i64 op 15 = r := ⟨_, rfl⟩
  obtain ⟨M16, E16⟩ : ∃ r, bits .and .i64 i 65535 = r := ⟨_, rfl⟩
  obtain ⟨M17, E17⟩ : ∃ r, bits .and .i64 i 131071 = r := ⟨_, rfl⟩
  obtain ⟨M20, E20⟩ : ∃ r, bits .and .i64 i 1048575 = r := ⟨_, rfl⟩
  obtain ⟨M24, E24⟩ : ∃ r, bits .and .i64 i 16777215 = r := ⟨_, rfl⟩
  have hA : 0 ≤ A ∧ A ≤ 15 := by rw [← EA, i64_and_4]; omega
  have hB : 0 ≤ B ∧ B ≤ 15 := by rw [← EB, i64_and_4]; omega
  have hC : 0 ≤ C ∧ C ≤ 15 := by rw [← EC, i64_and_4]; omega
  have h3 : 0 ≤ O3 ∧ O3 ≤ 3 := by rw [← E3, i64_and_2]; omega
  have h15 : 0 ≤ O15 ∧ O15 ≤ 15 := by rw [← E15, i64_and_4]; omega
  have h16 : 0 ≤ M16 ∧ M16 ≤ 65535 := by rw [← E16, i64_and_16]; omega
  have h17 : 0 ≤ M17 ∧ M17 ≤ 131071 := by rw [← E17, i64_and_17]; omega
  have h20 : 0 ≤ M20 ∧ M20 ≤ 1048575 := by rw [← E20, i64_and_20]; omega
  have h24 : 0 ≤ M24 ∧ M24 ≤ 16777215 := by rw [← E24, i64_and_24]; omega
  rcases (show K = 1 ∨ K = 2 ∨ K = 3 ∨ K = 4 ∨ K = 5 ∨ K = 6 ∨ K = 7 by omega) with rfl | rfl | rfl | rfl | rfl | rfl | rfl
  · rcases (show O = 0 ∨ (1 ≤ O ∧ O < 8 ∧ ¬ O = 0) ∨ (8 ≤ O ∧ O ≤ 10 ∧ ¬ O = 0) ∨ O = 11 by omega) with rfl | ⟨o0, o1, oz⟩ | ⟨o0, o1, oz⟩ | rfl
    · cases u
      · refine ⟨1, 0, A, 0, C, 0, false, ?_, fit_1_1f k op a b c i A B C 0 O3 O15 M16 M17 M20 M24 EK EO EA EB EC E3 E15 E16 E17 E20 E24 h17.1 h17.2 h20.1 h20.2 h24.1 h24.2⟩
        unfold I.May
        simp
        try omega
      · refine ⟨1, 0, A, 0, C, 0, false, ?_, fit_1_1t k op a b c i A B C 0 O3 O15 M16 M17 M20 M24 EK EO EA EB EC E3 E15 E16 E17 E20 E24 h17.1 h17.2 h20.1 h20.2 h24.1 h24.2⟩
        unfold I.May
        simp
        try omega
    · cases u
      · refine ⟨1, O, A, B, C, 0, false, ?_, fit_1_2f k op a b c i A B C O O3 O15 M16 M17 M20 M24 EK EO EA EB EC E3 E15 E16 E17 E20 E24 h17.1 h17.2 h20.1 h20.2 h24.1 h24.2 o0 o1 oz⟩
        unfold I.May
        simp
        try omega
      · refine ⟨1, O, A, B, C, 0, false, ?_, fit_1_2t k op a b c i A B C O O3 O15 M16 M17 M20 M24 EK EO EA EB EC E3 E15 E16 E17 E20 E24 h17.1 h17.2 h20.1 h20.2 h24.1 h24.2 o0 o1 oz⟩
        unfold I.May
        simp
        try omega
    · cases u
      · refine ⟨1, O, A, B, C, 0, false, ?_, fit_1_3f k op a b c i A B C O O3 O15 M16 M17 M20 M24 EK EO EA EB EC E3 E15 E16 E17 E20 E24 h17.1 h17.2 h20.1 h20.2 h24.1 h24.2 o0 o1 oz⟩
        unfold I.May
        simp
        try omega
      · refine ⟨1, O, A, B, C, 0, true, ?_, fit_1_3t k op a b c i A B C O O3 O15 M16 M17 M20 M24 EK EO EA EB EC E3 E15 E16 E17 E20 E24 h17.1 h17.2 h20.1 h20.2 h24.1 h24.2 o0 o1 oz⟩
        unfold I.May
        simp
        try omega
    · cases u
      · refine ⟨1, 11, A, B, C, 0, false, ?_, fit_1_4f k op a b c i A B C 11 O3 O15 M16 M17 M20 M24 EK EO EA EB EC E3 E15 E16 E17 E20 E24 h17.1 h17.2 h20.1 h20.2 h24.1 h24.2⟩
        unfold I.May
        simp
        try omega
      · refine ⟨1, 11, A, B, C, 0, false, ?_, fit_1_4t k op a b c i A B C 11 O3 O15 M16 M17 M20 M24 EK EO EA EB EC E3 E15 E16 E17 E20 E24 h17.1 h17.2 h20.1 h20.2 h24.1 h24.2⟩
        unfold I.May
        simp
        try omega
  · rcases (show O = 0 ∨ (1 ≤ O ∧ O < 8 ∧ ¬ O = 0) ∨ (8 ≤ O ∧ O ≤ 10 ∧ ¬ O = 0) ∨ O = 11 by omega) with rfl | ⟨o0, o1, oz⟩ | ⟨o0, o1, oz⟩ | rfl
    · cases u
      · refine ⟨2, 0, A, 0, 0, M17 - 65536, false, ?_, fit_2_1f k op a b c i A B C 0 O3 O15 M16 M17 M20 M24 EK EO EA EB EC E3 E15 E16 E17 E20 E24 h17.1 h17.2 h20.1 h20.2 h24.1 h24.2⟩
        unfold I.May
        simp
        try omega
      · refine ⟨2, 0, A, 0, 0, M16, true, ?_, fit_2_1t k op a b c i A B C 0 O3 O15 M16 M17 M20 M24 EK EO EA EB EC E3 E15 E16 E17 E20 E24 h17.1 h17.2 h20.1 h20.2 h24.1 h24.2⟩
        unfold I.May
        simp
        try omega
    · cases u
      · refine ⟨2, O, A, B, 0, M17 - 65536, false, ?_, fit_2_2f k op a b c i A B C O O3 O15 M16 M17 M20 M24 EK EO EA EB EC E3 E15 E16 E17 E20 E24 h17.1 h17.2 h20.1 h20.2 h24.1 h24.2 o0 o1 oz⟩
        unfold I.May
        simp
        try omega
      · refine ⟨2, O, A, B, 0, M17 - 65536, false, ?_, fit_2_2t k op a b c i A B C O O3 O15 M16 M17 M20 M24 EK EO EA EB EC E3 E15 E16 E17 E20 E24 h17.1 h17.2 h20.1 h20.2 h24.1 h24.2 o0 o1 oz⟩
        unfold I.May
        simp
        try omega
    · cases u
      · refine ⟨2, O, A, B, 0, M17 - 65536, false, ?_, fit_2_3f k op a b c i A B C O O3 O15 M16 M17 M20 M24 EK EO EA EB EC E3 E15 E16 E17 E20 E24 h17.1 h17.2 h20.1 h20.2 h24.1 h24.2 o0 o1 oz⟩
        unfold I.May
        simp
        try omega
      · refine ⟨2, O, A, B, 0, M17 - 65536, true, ?_, fit_2_3t k op a b c i A B C O O3 O15 M16 M17 M20 M24 EK EO EA EB EC E3 E15 E16 E17 E20 E24 h17.1 h17.2 h20.1 h20.2 h24.1 h24.2 o0 o1 oz⟩
        unfold I.May
        simp
        try omega
    · cases u
      · refine ⟨2, 11, A, B, 0, M17 - 65536, false, ?_, fit_2_4f k op a b c i A B C 11 O3 O15 M16 M17 M20 M24 EK EO EA EB EC E3 E15 E16 E17 E20 E24 h17.1 h17.2 h20.1 h20.2 h24.1 h24.2⟩
        unfold I.May
        simp
        try omega
      · refine ⟨2, 11, A, B, 0, M17 - 65536, false, ?_, fit_2_4t k op a b c i A B C 11 O3 O15 M16 M17 M20 M24 EK EO EA EB EC E3 E15 E16 E17 E20 E24 h17.1 h17.2 h20.1 h20.2 h24.1 h24.2⟩
        unfold I.May
        simp
        try omega
  · refine ⟨3, 0, A, 0, 0, 0, false, ?_, fit_3 k op a b c i A B C O O3 O15 M16 M17 M20 M24 u EK EO EA EB EC E3 E15 E16 E17 E20 E24 h17.1 h17.2 h20.1 h20.2 h24.1 h24.2⟩
    unfold I.May
    simp
    try omega
  · refine ⟨4, 0, A, 0, 0, 0, false, ?_, fit_4 k op a b c i A B C O O3 O15 M16 M17 M20 M24 u EK EO EA EB EC E3 E15 E16 E17 E20 E24 h17.1 h17.2 h20.1 h20.2 h24.1 h24.2⟩
    unfold I.May
    simp
    try omega
  · refine ⟨5, O3, A, B, 0, M20 - 524288, false, ?_, fit_5 k op a b c i A B C O O3 O15 M16 M17 M20 M24 u EK EO EA EB EC E3 E15 E16 E17 E20 E24 h17.1 h17.2 h20.1 h20.2 h24.1 h24.2⟩
    unfold I.May
    simp
    try omega
  · refine ⟨6, O15, 0, 0, C, 0, u, ?_, fit_6 k op a b c i A B C O O3 O15 M16 M17 M20 M24 u EK EO EA EB EC E3 E15 E16 E17 E20 E24 h17.1 h17.2 h20.1 h20.2 h24.1 h24.2⟩
    unfold I.May
    simp
    try omega
  · refine ⟨7, O15, 0, 0, 0, M24 - 8388608, u, ?_, fit_7 k op a b c i A B C O O3 O15 M16 M17 M20 M24 u EK EO EA EB EC E3 E15 E16 E17 E20 E24 h17.1 h17.2 h20.1 h20.2 h24.1 h24.2⟩
    unfold I.May
    simp
    try omega
end Go.Proofs.Ytlmddkciamdldaa

/-
  Data that came in, opened to any depth: numbers, bools, strings, structs, arrays, slices; what a reading of it says of the memory. No Go text is named here.
-/
namespace Go.Proofs.Ytlmddkciamdldaa
open Go.ChangeShapes Go.WideShapes Go.RowKit
set_option linter.unusedVariables false
set_option linter.unusedSimpArgs false
set_option maxRecDepth 100000
/-- the shape of a type -/
inductive Sh where
  | int (k : IntKind)
  | bool
  | str
  | nil
  | cons (f r : Sh)
  | rep (n : Nat) (e : Sh)
  | sl (e : Sh)
/-- how many cells -/
def Sh.size : Sh → Nat
  | .int _ | .bool | .str | .sl _ => 1
  | .nil => 0
  | .cons f r => f.size + r.size
  | .rep n e => n * e.size
/-- a struct's fields, one behind the other -/
def shFields (P : Program) (g : TypeId → Option Sh) : Nat → List Field → Option Sh
  | _, [] => some .nil
  | off, f :: fs =>
    match g f.type with
    | some s => if f.offset = off ∧ P.cellsOf f.type = s.size then (shFields P g (off + s.size) fs).map (Sh.cons s) else none
    | none => none
def shapeAt (P : Program) : Nat → TypeId → Option Sh
  | 0, _ => none
  | n + 1, t =>
    match P.underlying t with
    | some (.int k) => some (.int k)
    | some .bool => some .bool
    | some .string => some .str
    | some (.struct fs) => match shFields P (shapeAt P n) 0 fs.toList with
      | some s => if P.cellsOf t = s.size then some s else none
      | none => none
    | some (.array m e) => match shapeAt P n e with
      | some s => if P.cellsOf e = s.size ∧ P.cellsOf t = m * s.size then some (.rep m s) else none
      | none => none
    | some (.slice e) => match shapeAt P n e with
      | some s => if P.cellsOf e = s.size then some (.sl s) else none
      | none => none
    | _ => none
/-- what the cells hold, and what lies behind them -/
def Sees (w : World) : Sh → List Value → Prop
  | .int k, cs => ∃ a, cs = [.int k a] ∧ (Lit.int k a).wf = true
  | .bool, cs => ∃ b, cs = [.bool b]
  | .str, cs => ∃ s, cs = [.string s] ∧ s.size ≤ maxLen
  | .nil, cs => cs = []
  | .cons f r, cs => ∃ c d, cs = c ++ d ∧ c.length = f.size ∧ Sees w f c ∧ Sees w r d
  | .rep n e, cs => cs.length = n * e.size ∧ ∀ i, i < n → Sees w e ((cs.drop (i * e.size)).take e.size)
  | .sl e, cs => cs = [.slice none 0 0] ∨ ∃ (a : Addr) (len cap : Nat), cs = [.slice (some a) len cap] ∧ len ≤ cap ∧ cap ≤ maxLen ∧ ∀ i, i < len → ∃ es, w.cells? 0 (a.add (i * e.size)) e.size = some es ∧ Sees w e es
section
variable {H : Type} {enc : TypeId × Value → H} {P : Program} {w : World} {spare : Nat → Bool} {held : Bool}
theorem sees_fields {m : Nat} {g : TypeId → Option Sh} (ih : ∀ t s, g t = some s → ∀ cs (x : DataW H × List MemPlace), DataW.trod enc P w 0 spare held m t cs = some x → Sees w s cs) :
    ∀ (fs : List Field) (off : Nat) (s : Sh) (cs : List Value) (ys : List (DataW H × List MemPlace)), shFields P g off fs = some s → (cs.drop off).length = s.size →
      fs.mapM (fun f => DataW.trod enc P w 0 spare held m f.type ((cs.drop f.offset).take (P.cellsOf f.type))) = some ys → Sees w s (cs.drop off)
  | [], off, s, cs, ys, hk, hl, h => by
    simp [shFields] at hk
    subst hk
    exact List.length_eq_zero_iff.1 hl
  | f :: fs, off, s, cs, ys, hk, hl, h => by
    unfold shFields at hk
    split at hk
    · rename_i s0 hg
      split at hk
      · rename_i hc
        simp only [Option.map_eq_some_iff] at hk
        obtain ⟨r, hr, rfl⟩ := hk
        rw [List.mapM_cons] at h
        simp only [bind, Option.bind_eq_some_iff, pure, Option.some.injEq] at h
        obtain ⟨y, hy, ys', hys, rfl⟩ := h
        have h0 := ih _ _ hg _ _ hy
        rw [hc.1, hc.2] at h0
        have hl2 : (cs.drop off).length = s0.size + r.size := hl
        have hl' : (cs.drop (off + s0.size)).length = r.size := by
          rw [← List.drop_drop, List.length_drop, hl2]; omega
        refine ⟨(cs.drop off).take s0.size, (cs.drop off).drop s0.size, (List.take_append_drop _ _).symm, ?_, h0, ?_⟩
        · rw [List.length_take, hl2]; omega
        · rw [List.drop_drop]
          exact sees_fields ih fs (off + s0.size) r cs ys' hr hl' hys
      · cases hk
    · cases hk
/-- a reading says what is seen -/
theorem sees_of : ∀ (n : Nat) (t : TypeId) (s : Sh), shapeAt P n t = some s → ∀ (fuel : Nat) (cs : List Value) (x : DataW H × List MemPlace), DataW.trod enc P w 0 spare held fuel t cs = some x → Sees w s cs
  | 0, t, s, h, _, _, _, _ => by simp [shapeAt] at h
  | n + 1, t, s, h, fuel, cs, x, hx => by
    cases fuel with
    | zero => simp [DataW.trod] at hx
    | succ m =>
      unfold shapeAt at h
      split at h
      · rename_i k hu
        simp only [Option.some.injEq] at h; subst h
        obtain ⟨a, rfl, _, wa⟩ := DataW.trod_int hu hx
        exact ⟨a, rfl, wa⟩
      · rename_i hu
        simp only [Option.some.injEq] at h; subst h
        obtain ⟨b, rfl, _⟩ := DataW.trod_bool hu hx
        exact ⟨b, rfl⟩
      · rename_i hu
        simp only [Option.some.injEq] at h; subst h
        rw [DataW.trod_step] at hx
        unfold DataW.trodStep at hx
        rw [hu] at hx
        split at hx <;> simp_all
        exact ⟨_, rfl, hx.1⟩
      · rename_i fs hu
        split at h
        · rename_i s0 hk
          split at h
          · rename_i hc
            simp only [Option.some.injEq] at h; subst h
            rw [DataW.trod_step] at hx
            unfold DataW.trodStep at hx
            simp only [hu] at hx
            split at hx
            · rename_i hlen
              simp only [Option.map_eq_some_iff] at hx
              obtain ⟨ys, hys, rfl⟩ := hx
              have := sees_fields (fun t s hg cs x hx => sees_of n t s hg m cs x hx) fs.toList 0 s0 cs ys hk (by rw [List.drop_zero, hlen, hc]) hys
              rw [List.drop_zero] at this
              exact this
            · cases hx
          · cases h
        · cases h
      · rename_i q e hu
        split at h
        · rename_i s0 hk
          split at h
          · rename_i hc
            simp only [Option.some.injEq] at h; subst h
            rw [DataW.trod_step] at hx
            unfold DataW.trodStep at hx
            simp only [hu] at hx
            split at hx
            · rename_i hlen
              simp only [Option.map_eq_some_iff] at hx
              obtain ⟨ys, hys, rfl⟩ := hx
              rw [hc.1] at hys
              refine ⟨by rw [hlen, hc.2], fun i hi => ?_⟩
              have := mapM_some_get hys i i (by simp [hi])
              obtain ⟨y, hy⟩ : ∃ y, ys[i]? = some y := by
                have hl := mapM_some_length hys
                exact ⟨ys[i]'(by rw [hl]; simpa using hi), List.getElem?_eq_getElem _⟩
              rw [hy] at this
              exact sees_of n e s0 hk m _ _ this
            · cases hx
          · cases h
        · cases h
      · rename_i e hu
        split at h
        · rename_i s0 hk
          split at h
          · rename_i hc
            simp only [Option.some.injEq] at h; subst h
            rcases DataW.trod_slice hu hx with ⟨h0, _⟩ | ⟨a, len, cap, elems, rest, q, hq, hcs, _, _, hl, hm, hlen, hel, _⟩
            · exact Or.inl h0
            · refine Or.inr ⟨a, len, cap, hcs, hl, hm, fun i hi => ?_⟩
              have he := hel i hi
              obtain ⟨y, hy⟩ : ∃ y, elems[i]? = some y := ⟨elems[i]'(by omega), List.getElem?_eq_getElem _⟩
              rw [hy, Option.bind_eq_some_iff] at he
              obtain ⟨es, h1, h2⟩ := he
              rw [hc] at h1
              exact ⟨es, h1, sees_of n e s0 hk q es y h2⟩
          · cases h
        · cases h
      · cases h
theorem open_sees {n : Nat} {t : TypeId} {s : Sh} {v : Value} {d : DataW H} {p : List MemPlace} (hs : shapeAt P n t = some s) (h : DataW.Trod enc P w 0 spare held t v d p) : Sees w s v.cells.toList := by
  obtain ⟨fuel, hf⟩ := h
  exact sees_of n t s hs fuel _ _ hf
/-- a slice by its cells -/
theorem open_sl {r : Reach} {b0 n : Nat} {t e : TypeId} {s : Sh} {v : Value} {d : DataW H} {p : List MemPlace} (hu : P.underlying t = some (.slice e)) (hs : shapeAt P n t = some s) (hv : Value.okWide P w r b0 t v) (h : DataW.Trod enc P w 0 spare held t v d p) :
    ∃ A m c, v = .slice A m c ∧ Sees w s [.slice A m c] := by
  obtain ⟨A, m, c, rfl⟩ := okWide_slice hu hv
  exact ⟨A, m, c, rfl, by have := open_sees hs h; simpa [Value.cells] using this⟩
/-- a string -/
theorem open_text {r : Reach} {b0 n : Nat} {t : TypeId} {v : Value} {d : DataW H} {p : List MemPlace} (hu : P.underlying t = some .string) (hv : Value.okWide P w r b0 t v) (h : DataW.Trod enc P w 0 spare held t v d p) :
    ∃ x, v = .string x ∧ x.size ≤ maxLen := by
  have := open_sees (n := 1) (s := .str) (by simp [shapeAt, hu]) h
  obtain ⟨x, hx, hl⟩ := this
  refine ⟨x, ?_, hl⟩
  cases v <;> simp_all [Value.cells]
  · rename_i cs
    simp [Value.okWide, hu, Cell.okWide, Cell.ok] at hv
end
section
variable {w : World}
theorem cells_one {a : Addr} {es : List Value} (h : w.cells? 0 a 1 = some es) : ∃ v, es = [v] ∧ w.cell? a = some v := by
  unfold World.cells? at h
  rw [if_pos (Nat.zero_le _)] at h
  rw [show List.range 1 = [0] from rfl] at h
  simp only [List.mapM_cons, List.mapM_nil, bind, Option.bind_eq_some_iff, pure, Option.some.injEq] at h
  obtain ⟨v, hv, ys, rfl, rfl⟩ := h
  exact ⟨v, rfl, by simpa [Addr.add] using hv⟩
theorem cells_at {a : Addr} {n : Nat} {es : List Value} (h : w.cells? 0 a n = some es) : es.length = n ∧ ∀ j v, es[j]? = some v → w.cell? (a.add j) = some v := by
  unfold World.cells? at h
  rw [if_pos (Nat.zero_le _)] at h
  have hl := mapM_some_length h
  rw [List.length_range] at hl
  refine ⟨hl, fun j v hj => ?_⟩
  have hlt : j < n := by
    rcases Nat.lt_or_ge j es.length with h1 | h1
    · omega
    · rw [List.getElem?_eq_none h1] at hj; cases hj
  rw [mapM_some_get h j j (by simp [hlt]), hj]
theorem add_add (a : Addr) (i j : Nat) : (a.add i).add j = a.add (i + j) := by
  cases i with
  | zero => rw [Nat.zero_add]; rfl
  | succ i =>
    cases j with
    | zero => rfl
    | succ j =>
      show ({ a with off := a.off + (i + 1) + (j + 1), spot := none } : Addr) = { a with off := a.off + (i + 1 + (j + 1)), spot := none }
      rw [Nat.add_assoc]
theorem add_block (a : Addr) (i : Nat) : (a.add i).block = a.block := by cases i <;> rfl
/-- the cells of a slice of numbers -/
def Ints (w : World) (k : IntKind) (A : Option Addr) (n : Nat) (xs : List Int) : Prop :=
  xs.length = n ∧ (∀ x ∈ xs, (Lit.int k x).wf = true) ∧ (A = none → n = 0) ∧ ∀ ad, A = some ad → ∀ j x, xs[j]? = some x → w.cell? (ad.add j) = some (.int k x)
theorem ints_row {a : Addr} {k : IntKind} : ∀ (len : Nat), (∀ i, i < len → ∃ es, w.cells? 0 (a.add (i * 1)) 1 = some es ∧ Sees w (.int k) es) →
    ∃ xs : List Int, xs.length = len ∧ (∀ x ∈ xs, (Lit.int k x).wf = true) ∧ ∀ j x, xs[j]? = some x → w.cell? (a.add j) = some (.int k x)
  | 0, _ => ⟨[], rfl, by simp, by simp⟩
  | len + 1, h => by
    obtain ⟨xs, h1, h2, h3⟩ := ints_row len (fun i hi => h i (by omega))
    obtain ⟨es, he, hs⟩ := h len (by omega)
    obtain ⟨v, rfl, hv⟩ := cells_one he
    obtain ⟨x, hx, hw⟩ := hs
    simp only [List.cons.injEq, and_true] at hx
    subst hx
    rw [Nat.mul_one] at hv
    refine ⟨xs ++ [x], by simp [h1], ?_, ?_⟩
    · intro y hy
      rcases List.mem_append.1 hy with hy | hy
      · exact h2 y hy
      · simp at hy; subst hy; exact hw
    · intro j y hj
      by_cases hlt : j < xs.length
      · rw [List.getElem?_append_left hlt] at hj
        exact h3 j y hj
      · rw [List.getElem?_append_right (by omega)] at hj
        have hj0 : j - xs.length = 0 := by
          rcases Nat.eq_zero_or_pos (j - xs.length) with h0 | h0
          · exact h0
          · rw [List.getElem?_eq_none (by simp; omega)] at hj; cases hj
        rw [hj0] at hj
        simp at hj
        subst hj
        rw [show j = len by omega]
        exact hv
theorem sees_ints {k : IntKind} {A : Option Addr} {n c : Nat} (h : Sees w (.sl (.int k)) [.slice A n c]) : n ≤ c ∧ c ≤ maxLen ∧ ∃ xs, Ints w k A n xs := by
  rcases h with h | ⟨a, len, cap, h, hl, hm, he⟩
  · simp only [List.cons.injEq, Value.slice.injEq, and_true] at h
    obtain ⟨rfl, rfl, rfl⟩ := h
    exact ⟨Nat.le_refl _, by simp [maxLen], [], rfl, by simp, fun _ => rfl, by simp⟩
  · simp only [List.cons.injEq, Value.slice.injEq, and_true] at h
    obtain ⟨rfl, rfl, rfl⟩ := h
    obtain ⟨xs, h1, h2, h3⟩ := ints_row _ he
    exact ⟨hl, hm, xs, h1, h2, by simp, fun ad had j x hx => by cases had; exact h3 j x hx⟩
theorem Ints.lt {k : IntKind} {ad : Addr} {n j : Nat} {xs : List Int} (h : Ints w k (some ad) n xs) (hj : j < n) : ad.block < w.heap.size := by
  have hl : j < xs.length := by have := h.1; omega
  have hx : xs[j]? = some xs[j] := List.getElem?_eq_getElem hl
  have := World.block_lt_of_cell? w _ (h.2.2.2 ad rfl j _ hx)
  unfold Addr.add at this
  split at this <;> exact this
end
end Go.Proofs.Ytlmddkciamdldaa

/-
  Slices that came in, as rows of words.
-/
namespace Go.Proofs.Ytlmddkciamdldaa
open Go.ChangeShapes Go.WideShapes Go.RowKit
set_option linter.unusedVariables false
set_option linter.unusedSimpArgs false
set_option maxRecDepth 100000
theorem wf_u32 {x : Int} (h : (Lit.int .u32 x).wf = true) : 0 ≤ x ∧ x < 4294967296 := by
  simp [Lit.wf, IntKind.bits, IntKind.signed, IntKind.min, IntKind.max] at h
  omega
theorem wf_u8 {x : Int} (h : (Lit.int .u8 x).wf = true) : 0 ≤ x ∧ x ≤ 255 := by
  simp [Lit.wf, IntKind.bits, IntKind.signed, IntKind.min, IntKind.max] at h
  omega
theorem wf_u16 {x : Int} (h : (Lit.int .u16 x).wf = true) : 0 ≤ x ∧ x ≤ 65535 := by
  simp [Lit.wf, IntKind.bits, IntKind.signed, IntKind.min, IntKind.max] at h
  omega
theorem wf_i64 {x : Int} (h : (Lit.int .i64 x).wf = true) : -9223372036854775808 ≤ x ∧ x ≤ 9223372036854775807 := by
  simp [Lit.wf, IntKind.bits, IntKind.signed, IntKind.min, IntKind.max] at h
  omega
theorem sees_ws {w : World} {A : Option Addr} {n c : Nat} (h : Sees w (.sl (.int .u32)) [.slice A n c]) : ∃ xs, Ws w A n c xs := by
  have hn : A = none → c = 0 := by
    rcases h with h | ⟨a, len, cap, h, _⟩
    · simp only [List.cons.injEq, Value.slice.injEq, and_true] at h
      exact fun _ => h.2.2
    · simp only [List.cons.injEq, Value.slice.injEq, and_true] at h
      exact fun e => by rw [h.1] at e; cases e
  obtain ⟨h1, h2, xs, i1, i2, i3, i4⟩ := sees_ints h
  exact ⟨xs, i1, h1, h2, hn, fun x hx => wf_u32 (i2 x hx), i4⟩
end Go.Proofs.Ytlmddkciamdldaa

/-
  Registers out of their cells.
-/
namespace Go.Proofs.Ytlmddkciamdldaa
open Go.ChangeShapes Go.WideShapes Go.RowKit
set_option linter.unusedVariables false
set_option linter.unusedSimpArgs false
set_option maxRecDepth 100000
def A.of (l : List Int) (h : Int) (n z c v : Bool) : A.Regs := ⟨fun j => l.getD j 0, h, n, z, c, v⟩
theorem A.word {a : Int} (w : (Lit.int .u32 a).wf = true) : 0 ≤ a ∧ a < 4294967296 := by have := bounds_u32 w; omega
/-- the shape of registers, and of how a machine is set up -/
def regsSh : Sh := .cons (.rep 16 (.int .u32)) (.cons (.int .u32) (.cons .bool (.cons .bool (.cons .bool (.cons .bool .nil)))))
def setSh : Sh := .cons regsSh (.cons (.int .u32) (.cons (.sl (.int .u32)) .nil))
theorem sees_rep {w : World} {cs : List Value} (h : Sees w (.rep 16 (.int .u32)) cs) : ∃ l : List Int, l.length = 16 ∧ cs = l.map (Value.int .u32) ∧ ∀ x ∈ l, 0 ≤ x ∧ x < 4294967296 := by
  obtain ⟨hl, h⟩ := h
  have hl : cs.length = 16 := hl
  have h1 : ∀ i : Nat, ∃ a : Int, i < 16 → cs[i]? = some (.int .u32 a) ∧ 0 ≤ a ∧ a < 4294967296 := by
    intro i
    by_cases hi : i < 16
    · obtain ⟨a, ha, hw⟩ := h i hi
      have ha : (cs.drop (i * 1)).take 1 = [.int .u32 a] := ha
      rw [Nat.mul_one] at ha
      refine ⟨a, fun _ => ⟨?_, A.word hw⟩⟩
      have : ((cs.drop i).take 1)[0]? = some (.int .u32 a) := by rw [ha]; rfl
      rw [List.getElem?_take, if_pos (by omega), List.getElem?_drop, Nat.add_zero] at this
      exact this
    · exact ⟨0, fun h => absurd h hi⟩
  refine ⟨(List.range 16).map fun i => Classical.choose (h1 i), by simp, ?_, ?_⟩
  · apply List.ext_getElem?
    intro i
    by_cases hi : i < 16
    · rw [(Classical.choose_spec (h1 i) hi).1, List.getElem?_map, List.getElem?_map, List.getElem?_range hi]; rfl
    · rw [List.getElem?_eq_none (by omega), List.getElem?_eq_none (by simp; omega)]
  · intro x hx
    obtain ⟨i, hi, rfl⟩ := List.mem_map.1 hx
    exact (Classical.choose_spec (h1 i) (by simpa using hi)).2
theorem list16 (l : List Int) (h : l.length = 16) : l.map (Value.int .u32) = [.int .u32 (l.getD 0 0), .int .u32 (l.getD 1 0), .int .u32 (l.getD 2 0), .int .u32 (l.getD 3 0), .int .u32 (l.getD 4 0), .int .u32 (l.getD 5 0), .int .u32 (l.getD 6 0), .int .u32 (l.getD 7 0), .int .u32 (l.getD 8 0), .int .u32 (l.getD 9 0), .int .u32 (l.getD 10 0), .int .u32 (l.getD 11 0), .int .u32 (l.getD 12 0), .int .u32 (l.getD 13 0), .int .u32 (l.getD 14 0), .int .u32 (l.getD 15 0)] := by
  apply List.ext_getElem?
  intro i
  by_cases hi : i < 16
  · rw [List.getElem?_map, List.getElem?_eq_getElem (by omega)]
    have hd : ∀ j, (hj : j < 16) → l.getD j 0 = l[j]'(by omega) := fun j hj => by simp [List.getD_eq_getElem?_getD, List.getElem?_eq_getElem (show j < l.length by omega)]
    rw [hd 0 (by omega), hd 1 (by omega), hd 2 (by omega), hd 3 (by omega), hd 4 (by omega), hd 5 (by omega), hd 6 (by omega), hd 7 (by omega), hd 8 (by omega), hd 9 (by omega), hd 10 (by omega), hd 11 (by omega), hd 12 (by omega), hd 13 (by omega), hd 14 (by omega), hd 15 (by omega)]
    rcases (show i = 0 ∨ i = 1 ∨ i = 2 ∨ i = 3 ∨ i = 4 ∨ i = 5 ∨ i = 6 ∨ i = 7 ∨ i = 8 ∨ i = 9 ∨ i = 10 ∨ i = 11 ∨ i = 12 ∨ i = 13 ∨ i = 14 ∨ i = 15 by omega) with rfl | rfl | rfl | rfl | rfl | rfl | rfl | rfl | rfl | rfl | rfl | rfl | rfl | rfl | rfl | rfl <;> rfl
  · rw [List.getElem?_eq_none (by simp; omega), List.getElem?_eq_none (by simp; omega)]
/-- the cells of a set-up: registers, a place, inputs -/
theorem sees_set {w : World} {cs : List Value} (h : Sees w setSh cs) : ∃ (s : A.Regs) (pc : Int) (A' : Option Addr) (n c : Nat), A.Ok s ∧ (0 ≤ pc ∧ pc < 4294967296) ∧ (∃ is, Ws w A' n c is) ∧ cs = [.int .u32 (s.r 0), .int .u32 (s.r 1), .int .u32 (s.r 2), .int .u32 (s.r 3), .int .u32 (s.r 4), .int .u32 (s.r 5), .int .u32 (s.r 6), .int .u32 (s.r 7), .int .u32 (s.r 8), .int .u32 (s.r 9), .int .u32 (s.r 10), .int .u32 (s.r 11), .int .u32 (s.r 12), .int .u32 (s.r 13), .int .u32 (s.r 14), .int .u32 (s.r 15), .int .u32 s.h, .bool s.n, .bool s.z, .bool s.c, .bool s.v, .int .u32 pc, .slice A' n c] := by
  obtain ⟨c0, d0, rfl, _, h0, h⟩ := h
  obtain ⟨c1, d1, rfl, _, ⟨pc, rfl, hp⟩, h⟩ := h
  obtain ⟨c2, d2, rfl, _, h2, h⟩ := h
  have hd : d2 = [] := h
  subst hd
  obtain ⟨e0, f0, rfl, _, hR, h0⟩ := h0
  obtain ⟨e1, f1, rfl, _, ⟨hh, rfl, hw⟩, h0⟩ := h0
  obtain ⟨e2, f2, rfl, _, ⟨n, rfl⟩, h0⟩ := h0
  obtain ⟨e3, f3, rfl, _, ⟨z, rfl⟩, h0⟩ := h0
  obtain ⟨e4, f4, rfl, _, ⟨c, rfl⟩, h0⟩ := h0
  obtain ⟨e5, f5, rfl, _, ⟨v, rfl⟩, h0⟩ := h0
  have hf : f5 = [] := h0
  subst hf
  obtain ⟨l, hl, rfl, hr⟩ := sees_rep hR
  have hs : ∃ A n c, c2 = [.slice A n c] := by
    rcases h2 with rfl | ⟨ad, len, cap, rfl, _⟩
    · exact ⟨_, _, _, rfl⟩
    · exact ⟨_, _, _, rfl⟩
  obtain ⟨A', m, q, rfl⟩ := hs
  refine ⟨A.of l hh n z c v, pc, A', m, q, ⟨fun j hj => ?_, A.word hw⟩, A.word hp, sees_ws h2, ?_⟩
  · show 0 ≤ l.getD j 0 ∧ l.getD j 0 < 4294967296
    rw [List.getD_eq_getElem?_getD, List.getElem?_eq_getElem (show j < l.length by omega)]
    exact hr _ (List.getElem_mem _)
  · rw [list16 l hl]; rfl
section
variable {H : Type} {enc : TypeId × Value → H} {P : Program} {w : World} {spare : Nat → Bool} {held : Bool}
theorem open_row {r : Reach} {b0 n : Nat} {t : TypeId} {fs : Array Field} {s : Sh} {v : Value} {d : DataW H} {p : List MemPlace} (hu : P.underlying t = some (.struct fs)) (hs : shapeAt P n t = some s) (hv : Value.okWide P w r b0 t v) (h : DataW.Trod enc P w 0 spare held t v d p) :
    ∃ cs : Array Value, v = .agg cs ∧ Sees w s cs.toList := by
  have hcs : ∃ cs : Array Value, v = .agg cs := by
    simp only [Value.okWide, hu] at hv
    obtain ⟨cs, rfl, _⟩ := hv
    exact ⟨cs, rfl⟩
  obtain ⟨cs, rfl⟩ := hcs
  exact ⟨cs, rfl, by have := open_sees hs h; simpa [Value.cells] using this⟩
end
end Go.Proofs.Ytlmddkciamdldaa
