import Derived.Below
import Derived.Carry
import Derived.ChangeSame
import Derived.OpenShut
import Derived.RowKit
import Derived.SizedLaws
import Derived.WideShapes
import Derived.Test.YtpfgmfiegnkocaaGreatQf
namespace Go.Proofs.YtpfgmfiegnkocaaGreat
open Go.RowKit
set_option linter.unusedVariables false
set_option linter.unusedSimpArgs false
set_option maxRecDepth 100000
theorem rdo_yes (s : A.Regs) (k op a b c i : Int) (u : Bool) (hs : A.Ok s) (hm : I.May ⟨k, op, a, b, c, i, u⟩) (hk : k = 1 ∨ k = 2 ∨ k = 3 ∨ k = 4) (ht : ¬ A.Traps s ⟨k, op, a, b, c, i, u⟩) (w : World) :
 Calls Tryz.prog 33 #[.agg (A.cells s), .agg #[.int .i64 k, .int .i64 op, .int .i64 a, .int .i64 b, .int .i64 c, .int .i64 i, .bool u]] w fun e w' => e = .returned (.tuple #[.agg (A.cells (A.done s ⟨k, op, a, b, c, i, u⟩)), .int .i64 0]) ∧ Kept w w' := by
 have HM := rmay_any k op a b c i u
 rw [show I.may ⟨k, op, a, b, c, i, u⟩ = true from decide_eq_true hm] at HM
 replace HM := Lib.hid HM
 have hr := A.res_ok s _ hs hm
 have hn := A.num_ok s _ hs hm.1.2.2.2.2.1 hm.1.2.2.2.2.2
 obtain ⟨⟨a0, a1, b0, b1, c0, c1⟩, hm2⟩ := hm
 simp only at a0 a1 b0 b1 c0 c1 hm2
 have hb := hs.1 b.toNat (by omega)
 rcases hk with rfl | rfl | rfl | rfl
 · rcases (show op = 0 ∨ op = 1 ∨ op = 2 ∨ op = 3 ∨ op = 4 ∨ op = 5 ∨ op = 6 ∨ op = 7 ∨ op = 8 ∨ op = 9 ∨ op = 10 ∨ op = 11 by omega) with rfl | rfl | rfl | rfl | rfl | rfl | rfl | rfl | rfl | rfl | rfl | rfl
   · cases u
     · exact rdo_1_0f s a b c i _ _ (s.r c.toNat) a0 (by omega) b0 (by omega) c0 (by omega) hb.1 hb.2 hn.1 hn.2 rfl rfl hr.1.1 hr.1.2 w HM (Lib.hid rfl)
     · exact rdo_1_0t s a b c i _ _ ((s.r c.toNat) * 65536 % 4294967296) a0 (by omega) b0 (by omega) c0 (by omega) hb.1 hb.2 hn.1 hn.2 rfl rfl hr.1.1 hr.1.2 w HM (Lib.hid rfl)
   · exact rdo_1_1 s a b c i _ _ (W.shift 1 (s.r b.toNat) (s.r c.toNat)) u a0 (by omega) b0 (by omega) c0 (by omega) hb.1 hb.2 hn.1 hn.2 rfl rfl hr.1.1 hr.1.2 w HM (Lib.hid (rshift_any 1 _ _ hb.1 hb.2 hn.1 hn.2))
   · exact rdo_1_2 s a b c i _ _ (W.shift 2 (s.r b.toNat) (s.r c.toNat)) u a0 (by omega) b0 (by omega) c0 (by omega) hb.1 hb.2 hn.1 hn.2 rfl rfl hr.1.1 hr.1.2 w HM (Lib.hid (rshift_any 2 _ _ hb.1 hb.2 hn.1 hn.2))
   · exact rdo_1_3 s a b c i _ _ (W.shift 3 (s.r b.toNat) (s.r c.toNat)) u a0 (by omega) b0 (by omega) c0 (by omega) hb.1 hb.2 hn.1 hn.2 rfl rfl hr.1.1 hr.1.2 w HM (Lib.hid (rshift_any 3 _ _ hb.1 hb.2 hn.1 hn.2))
   · exact rdo_1_4 s a b c i _ _ (bits BinOp.and IntKind.u32 (s.r b.toNat) (s.r c.toNat)) u a0 (by omega) b0 (by omega) c0 (by omega) hb.1 hb.2 hn.1 hn.2 rfl rfl hr.1.1 hr.1.2 w HM (Lib.hid rfl)
   · exact rdo_1_5 s a b c i _ _ (bits BinOp.andNot IntKind.u32 (s.r b.toNat) (s.r c.toNat)) u a0 (by omega) b0 (by omega) c0 (by omega) hb.1 hb.2 hn.1 hn.2 rfl rfl hr.1.1 hr.1.2 w HM (Lib.hid (A.ann_eq _ _ hb.1 hb.2 hn.1 hn.2))
   · exact rdo_1_6 s a b c i _ _ (bits BinOp.or IntKind.u32 (s.r b.toNat) (s.r c.toNat)) u a0 (by omega) b0 (by omega) c0 (by omega) hb.1 hb.2 hn.1 hn.2 rfl rfl hr.1.1 hr.1.2 w HM (Lib.hid rfl)
   · exact rdo_1_7 s a b c i _ _ (bits BinOp.xor IntKind.u32 (s.r b.toNat) (s.r c.toNat)) u a0 (by omega) b0 (by omega) c0 (by omega) hb.1 hb.2 hn.1 hn.2 rfl rfl hr.1.1 hr.1.2 w HM (Lib.hid (A.xor_eq _ _ hb.1 hb.2 hn.1 hn.2))
   · cases u
     · exact rdo_1_8f s a b c i _ _ _ _ _ a0 (by omega) b0 (by omega) c0 (by omega) hb.1 hb.2 hn.1 hn.2 rfl rfl hr.1.1 hr.1.2 w HM (Lib.hid (radd_any _ _ false hb.1 hb.2 hn.1 hn.2))
     · exact rdo_1_8t s a b c i _ _ _ _ _ a0 (by omega) b0 (by omega) c0 (by omega) hb.1 hb.2 hn.1 hn.2 rfl rfl hr.1.1 hr.1.2 w HM (Lib.hid (radd_any _ _ s.c hb.1 hb.2 hn.1 hn.2))
   · cases u
     · exact rdo_1_9f s a b c i _ _ _ _ _ a0 (by omega) b0 (by omega) c0 (by omega) hb.1 hb.2 hn.1 hn.2 rfl rfl hr.1.1 hr.1.2 w HM (Lib.hid (rsub_any _ _ false hb.1 hb.2 hn.1 hn.2))
     · exact rdo_1_9t s a b c i _ _ _ _ _ a0 (by omega) b0 (by omega) c0 (by omega) hb.1 hb.2 hn.1 hn.2 rfl rfl hr.1.1 hr.1.2 w HM (Lib.hid (rsub_any _ _ s.c hb.1 hb.2 hn.1 hn.2))
   · exact rdo_1_10 s a b c i _ _ _ u _ a0 (by omega) b0 (by omega) c0 (by omega) hb.1 hb.2 hn.1 hn.2 rfl rfl hr.1.1 hr.1.2 w HM (Lib.hid (rmul_any _ _ u hb.1 hb.2 hn.1 hn.2))
   · have hz : 0 < W.sgn (s.r c.toNat) := by
      have : ¬ W.sgn (s.r c.toNat) ≤ 0 := fun h => ht ⟨Or.inl rfl, rfl, h⟩
      omega
     exact rdo_1_11 s a b c i _ _ _ u _ a0 (by omega) b0 (by omega) c0 (by omega) hb.1 hb.2 hn.1 hn.2 rfl rfl hr.1.1 hr.1.2 w HM (Lib.hid (rdiv_yes _ _ hb.1 hb.2 hn.1 hn.2 hz))
 · rcases (show op = 0 ∨ op = 1 ∨ op = 2 ∨ op = 3 ∨ op = 4 ∨ op = 5 ∨ op = 6 ∨ op = 7 ∨ op = 8 ∨ op = 9 ∨ op = 10 ∨ op = 11 by omega) with rfl | rfl | rfl | rfl | rfl | rfl | rfl | rfl | rfl | rfl | rfl | rfl
   · cases u
     · exact rdo_2_0f s a b c i _ _ (i % 4294967296) a0 (by omega) b0 (by omega) c0 (by omega) hb.1 hb.2 hn.1 hn.2 rfl rfl hr.1.1 hr.1.2 w HM (Lib.hid rfl)
     · exact rdo_2_0t s a b c i _ _ ((i % 4294967296) * 65536 % 4294967296) a0 (by omega) b0 (by omega) c0 (by omega) hb.1 hb.2 hn.1 hn.2 rfl rfl hr.1.1 hr.1.2 w HM (Lib.hid rfl)
   · exact rdo_2_1 s a b c i _ _ (W.shift 1 (s.r b.toNat) (i % 4294967296)) u a0 (by omega) b0 (by omega) c0 (by omega) hb.1 hb.2 hn.1 hn.2 rfl rfl hr.1.1 hr.1.2 w HM (Lib.hid (rshift_any 1 _ _ hb.1 hb.2 hn.1 hn.2))
   · exact rdo_2_2 s a b c i _ _ (W.shift 2 (s.r b.toNat) (i % 4294967296)) u a0 (by omega) b0 (by omega) c0 (by omega) hb.1 hb.2 hn.1 hn.2 rfl rfl hr.1.1 hr.1.2 w HM (Lib.hid (rshift_any 2 _ _ hb.1 hb.2 hn.1 hn.2))
   · exact rdo_2_3 s a b c i _ _ (W.shift 3 (s.r b.toNat) (i % 4294967296)) u a0 (by omega) b0 (by omega) c0 (by omega) hb.1 hb.2 hn.1 hn.2 rfl rfl hr.1.1 hr.1.2 w HM (Lib.hid (rshift_any 3 _ _ hb.1 hb.2 hn.1 hn.2))
   · exact rdo_2_4 s a b c i _ _ (bits BinOp.and IntKind.u32 (s.r b.toNat) (i % 4294967296)) u a0 (by omega) b0 (by omega) c0 (by omega) hb.1 hb.2 hn.1 hn.2 rfl rfl hr.1.1 hr.1.2 w HM (Lib.hid rfl)
   · exact rdo_2_5 s a b c i _ _ (bits BinOp.andNot IntKind.u32 (s.r b.toNat) (i % 4294967296)) u a0 (by omega) b0 (by omega) c0 (by omega) hb.1 hb.2 hn.1 hn.2 rfl rfl hr.1.1 hr.1.2 w HM (Lib.hid (A.ann_eq _ _ hb.1 hb.2 hn.1 hn.2))
   · exact rdo_2_6 s a b c i _ _ (bits BinOp.or IntKind.u32 (s.r b.toNat) (i % 4294967296)) u a0 (by omega) b0 (by omega) c0 (by omega) hb.1 hb.2 hn.1 hn.2 rfl rfl hr.1.1 hr.1.2 w HM (Lib.hid rfl)
   · exact rdo_2_7 s a b c i _ _ (bits BinOp.xor IntKind.u32 (s.r b.toNat) (i % 4294967296)) u a0 (by omega) b0 (by omega) c0 (by omega) hb.1 hb.2 hn.1 hn.2 rfl rfl hr.1.1 hr.1.2 w HM (Lib.hid (A.xor_eq _ _ hb.1 hb.2 hn.1 hn.2))
   · cases u
     · exact rdo_2_8f s a b c i _ _ _ _ _ a0 (by omega) b0 (by omega) c0 (by omega) hb.1 hb.2 hn.1 hn.2 rfl rfl hr.1.1 hr.1.2 w HM (Lib.hid (radd_any _ _ false hb.1 hb.2 hn.1 hn.2))
     · exact rdo_2_8t s a b c i _ _ _ _ _ a0 (by omega) b0 (by omega) c0 (by omega) hb.1 hb.2 hn.1 hn.2 rfl rfl hr.1.1 hr.1.2 w HM (Lib.hid (radd_any _ _ s.c hb.1 hb.2 hn.1 hn.2))
   · cases u
     · exact rdo_2_9f s a b c i _ _ _ _ _ a0 (by omega) b0 (by omega) c0 (by omega) hb.1 hb.2 hn.1 hn.2 rfl rfl hr.1.1 hr.1.2 w HM (Lib.hid (rsub_any _ _ false hb.1 hb.2 hn.1 hn.2))
     · exact rdo_2_9t s a b c i _ _ _ _ _ a0 (by omega) b0 (by omega) c0 (by omega) hb.1 hb.2 hn.1 hn.2 rfl rfl hr.1.1 hr.1.2 w HM (Lib.hid (rsub_any _ _ s.c hb.1 hb.2 hn.1 hn.2))
   · exact rdo_2_10 s a b c i _ _ _ u _ a0 (by omega) b0 (by omega) c0 (by omega) hb.1 hb.2 hn.1 hn.2 rfl rfl hr.1.1 hr.1.2 w HM (Lib.hid (rmul_any _ _ u hb.1 hb.2 hn.1 hn.2))
   · have hz : 0 < W.sgn (i % 4294967296) := by
      have : ¬ W.sgn (i % 4294967296) ≤ 0 := fun h => ht ⟨Or.inr rfl, rfl, h⟩
      omega
     exact rdo_2_11 s a b c i _ _ _ u _ a0 (by omega) b0 (by omega) c0 (by omega) hb.1 hb.2 hn.1 hn.2 rfl rfl hr.1.1 hr.1.2 w HM (Lib.hid (rdiv_yes _ _ hb.1 hb.2 hn.1 hn.2 hz))
 · exact rdo_3 s op a b c i _ _ s.h u a0 (by omega) b0 (by omega) c0 (by omega) hb.1 hb.2 (hs.1 c.toNat (by omega)).1 (hs.1 c.toNat (by omega)).2 rfl rfl hr.1.1 hr.1.2 w HM (Lib.hid rfl)
 · exact rdo_4 s op a b c i _ _ (A.flg s) u _ _ _ _ s.n s.z s.c s.v rfl rfl rfl rfl a0 (by omega) b0 (by omega) c0 (by omega) hb.1 hb.2 (hs.1 c.toNat (by omega)).1 (hs.1 c.toNat (by omega)).2 rfl rfl hr.1.1 hr.1.2 w HM (Lib.hid (rbit_31 s.n)) (Lib.hid (rbit_30 s.z)) (Lib.hid (rbit_29 s.c)) (Lib.hid (rbit_28 s.v)) (Lib.hid (A.flg_eq s))
theorem rdo_run (s : A.Regs) (k op a b c i : Int) (u : Bool) (hs : A.Ok s) (w : World) :
 Calls Tryz.prog 33 #[.agg (A.cells s), .agg #[.int .i64 k, .int .i64 op, .int .i64 a, .int .i64 b, .int .i64 c, .int .i64 i, .bool u]] w fun e w' => e = .returned (.tuple #[.agg (A.cells (A.run s ⟨k, op, a, b, c, i, u⟩).1), .int .i64 (A.run s ⟨k, op, a, b, c, i, u⟩).2]) ∧ Kept w w' := by
 have HM := rmay_any k op a b c i u
 by_cases hm : I.May ⟨k, op, a, b, c, i, u⟩
 · rw [show I.may ⟨k, op, a, b, c, i, u⟩ = true from decide_eq_true hm] at HM
   by_cases h5 : k = 5 ∨ k = 6 ∨ k = 7
   · rw [A.run_no s _ (Or.inr h5)]
     rcases h5 with rfl | rfl | rfl
     · exact rdo_5 s op a b c i u w (Lib.hid HM)
     · exact rdo_6 s op a b c i u w (Lib.hid HM)
     · exact rdo_7 s op a b c i u w (Lib.hid HM)
   · by_cases ht : A.Traps s ⟨k, op, a, b, c, i, u⟩
     · rw [A.run_trap s _ hm ht]
       replace HM := Lib.hid HM
       have hn := A.num_ok s _ hs hm.1.2.2.2.2.1 hm.1.2.2.2.2.2
       obtain ⟨⟨a0, a1, b0, b1, c0, c1⟩, hm2⟩ := hm
       simp only at a0 a1 b0 b1 c0 c1 hm2
       have hb := hs.1 b.toNat (by omega)
       obtain ⟨hk, h11, hz⟩ := ht
       simp only at hk h11
       subst h11
       rcases hk with rfl | rfl
       · exact rdo_1_11n s a b c i _ _ 0 u a0 (by omega) b0 (by omega) c0 (by omega) hb.1 hb.2 hn.1 hn.2 rfl rfl (by omega) (by omega) w HM (Lib.hid (rdiv_no _ _ hb.1 hb.2 hn.1 hn.2 hz))
       · exact rdo_2_11n s a b c i _ _ 0 u a0 (by omega) b0 (by omega) c0 (by omega) hb.1 hb.2 hn.1 hn.2 rfl rfl (by omega) (by omega) w HM (Lib.hid (rdiv_no _ _ hb.1 hb.2 hn.1 hn.2 hz))
     · have hk : k = 1 ∨ k = 2 ∨ k = 3 ∨ k = 4 := by have := A.may_kind _ hm; simp only at this; omega
       rw [A.run_yes s _ hm hk ht]
       exact rdo_yes s k op a b c i u hs hm hk ht w
 · rw [A.run_no s _ (Or.inl hm)]
   rw [show I.may ⟨k, op, a, b, c, i, u⟩ = false from decide_eq_false hm] at HM
   exact rdo_not s k op a b c i u w (Lib.hid HM)
noncomputable def X.mvX (x : X.St) (j : I.Ins) : X.St := ⟨(X.doX x j).ws, if X.doT x j = 0 ∨ X.doT x j = 1 then X.doS x j else x.s, x.pc, x.st, (X.doX x j).ins, (X.doX x j).outs⟩
theorem X.mvX_to (x : X.St) (j : I.Ins) (ws : List Int) (s : A.Regs) (ins outs : List Int) (h1 : (X.doX x j).ws = ws) (h2 : (if X.doT x j = 0 ∨ X.doT x j = 1 then X.doS x j else x.s) = s) (h3 : (X.doX x j).ins = ins) (h4 : (X.doX x j).outs = outs) : X.mvX x j = ⟨ws, s, x.pc, x.st, ins, outs⟩ := by
 unfold X.mvX; rw [h1, h2, h3, h4]
theorem rmove_any {F : Nat → Prop} {E : Nat} {x : X.St} {w : World} (h : RMac F E x w) (op a b c i : Int) (u : Bool) (hm : I.May ⟨5, op, a, b, c, i, u⟩) (hn : x.outs.length < 1000000) :
 Calls Tryz.prog 31 #[.pointer (some ⟨E, 0, none⟩), .agg #[.int .i64 5, .int .i64 op, .int .i64 a, .int .i64 b, .int .i64 c, .int .i64 i, .bool u]] w fun e w' => e = .returned (.int .i64 (X.doT x ⟨5, op, a, b, c, i, u⟩)) ∧ ∃ F', RMac F' E (X.mvX x ⟨5, op, a, b, c, i, u⟩) w' ∧ Turn F w w' ∧ ∀ k, F' k → F k ∨ w.heap.size ≤ k := by
 obtain ⟨⟨a0, a1, b0, b1, c0, c1⟩, hm2⟩ := hm
 simp only at a0 a1 b0 b1 c0 c1 hm2
 have ho : op = 0 ∨ op = 1 ∨ op = 2 ∨ op = 3 := by omega
 obtain ⟨D, C, ai, ni, ci, ao, no, co, hA⟩ := h
 have hws := hA.mem.rng
 have hin := hA.ins.rng
 have hadr := X.adr_ok x ⟨5, op, a, b, c, i, u⟩
 rcases ho with rfl | rfl | rfl | rfl
 · generalize hj : (⟨5, 0, a, b, c, i, u⟩ : I.Ins) = j at hadr
   have e1 : X.doT x j = X.ldT x (X.adr x j) := by rw [← hj]; rfl
   have e2 : X.doS x j = A.show' (A.set x.s a.toNat (X.ldV x (X.adr x j))) (X.ldV x (X.adr x j)) := by rw [← hj]; rfl
   have e3 : X.doX x j = ⟨x.ws, x.s, x.pc, x.st, X.ldI x (X.adr x j), x.outs⟩ := by rw [← hj]; rfl
   have hy : (x.s.r b.toNat + i % 4294967296) % 4294967296 = X.adr x j := by rw [← hj]; rfl
   generalize X.adr x j = y at *
   by_cases hp : y = 4294967232
   · have t0 : X.doT x j = 0 := by rw [e1]; exact if_pos hp
     have v0 : X.ldV x y = x.ins.headD 0 := if_pos hp
     have i0 : X.ldI x y = x.ins.tail := if_pos hp
     have L := fun (w' : World) (h' : RMacAt F E x D C ai ni ci ao no co w') => R.word_any h'.mem y hadr.1 hadr.2
     rw [t0]
     cases hx : x.ins with
     | nil =>
       have ex : X.mvX x j = ⟨x.ws, A.show' (A.set x.s a.toNat 0) 0, x.pc, x.st, x.ins, x.outs⟩ := X.mvX_to x j _ _ _ _ (by rw [e3]) (by rw [if_pos (Or.inl t0), e2, v0, hx]; rfl) (by rw [e3, i0, hx]; rfl) (by rw [e3])
       rw [ex]
       refine (rmove_0n hA a b c i y _ _ u a0 (by omega) b0 (by omega) hadr.1 hadr.2 hy hp hx L).mono ?_
       rintro e w' ⟨he, hB, ai', ni', ci', h3⟩
       exact ⟨he, F, ⟨_, _, _, _, _, _, _, _, h3⟩, hB.turn hA.inE, fun k hk => Or.inl hk⟩
     | cons v ys =>
       have hv := hin v (by rw [hx]; simp)
       have ex : X.mvX x j = ⟨x.ws, A.show' (A.set x.s a.toNat v) v, x.pc, x.st, ys, x.outs⟩ := X.mvX_to x j _ _ _ _ (by rw [e3]) (by rw [if_pos (Or.inl t0), e2, v0, hx]; rfl) (by rw [e3, i0, hx]; rfl) (by rw [e3])
       rw [ex]
       refine (rmove_0i hA a b c i y v _ _ u a0 (by omega) b0 (by omega) hadr.1 hadr.2 hy ys hv.1 hv.2 hp hx L).mono ?_
       rintro e w' ⟨he, hB, ai', ni', ci', h3⟩
       exact ⟨he, F, ⟨_, _, _, _, _, _, _, _, h3⟩, hB.turn hA.inE, fun k hk => Or.inl hk⟩
   · have t0 : X.doT x j = M.wt x.ws y := by rw [e1]; exact if_neg hp
     have v0 : X.ldV x y = M.word x.ws y := if_neg hp
     have i0 : X.ldI x y = x.ins := if_neg hp
     have hv := X.word_ok x.ws y hws
     have L := fun (w' : World) (h' : RMacAt F E x D C ai ni ci ao no co w') => R.word_any h'.mem y hadr.1 hadr.2
     rw [t0]
     by_cases tz : M.wt x.ws y = 0
     · rw [tz] at L ⊢
       have ex : X.mvX x j = ⟨x.ws, A.show' (A.set x.s a.toNat (M.word x.ws y)) (M.word x.ws y), x.pc, x.st, x.ins, x.outs⟩ := X.mvX_to x j _ _ _ _ (by rw [e3]) (by rw [if_pos (Or.inl (t0.trans tz)), e2, v0]) (by rw [e3, i0]) (by rw [e3])
       rw [ex]
       refine (rmove_0w hA a b c i y _ u a0 (by omega) b0 (by omega) hadr.1 hadr.2 hy hv.1 hv.2 hp L).mono ?_
       rintro e w' ⟨he, hB, ai', ni', ci', h3⟩
       exact ⟨he, F, ⟨_, _, _, _, _, _, _, _, h3⟩, hB.turn hA.inE, fun k hk => Or.inl hk⟩
     · have h34 := X.wt_st x.ws y
       have ex : X.mvX x j = x := (X.mvX_to x j x.ws x.s x.ins x.outs (by rw [e3]) (by rw [if_neg (by rw [t0]; omega)]) (by rw [e3, i0]) (by rw [e3])).trans rfl
       rw [ex]
       refine (rmove_0t hA a b c i y _ _ u a0 (by omega) b0 (by omega) hadr.1 hadr.2 hy tz hp L).mono ?_
       rintro e w' ⟨he, hK⟩
       exact ⟨he, F, ⟨_, _, _, _, _, _, _, _, hA.kept hK⟩, hK.turn F, fun k hk => Or.inl hk⟩
 · generalize hj : (⟨5, 1, a, b, c, i, u⟩ : I.Ins) = j at hadr
   have e1 : X.doT x j = M.bt x.ws (X.adr x j) := by rw [← hj]; rfl
   have e2 : X.doS x j = A.show' (A.set x.s a.toNat (M.byte x.ws (X.adr x j))) (M.byte x.ws (X.adr x j)) := by rw [← hj]; rfl
   have e3 : X.doX x j = x := by rw [← hj]; rfl
   have hy : (x.s.r b.toNat + i % 4294967296) % 4294967296 = X.adr x j := by rw [← hj]; rfl
   generalize X.adr x j = y at *
   have hv := X.byte_ok x.ws y
   have L := fun (w' : World) (h' : RMacAt F E x D C ai ni ci ao no co w') => R.byte_any h'.mem y hadr.1 hadr.2
   rw [e1]
   by_cases tz : M.bt x.ws y = 0
   · rw [tz] at L ⊢
     have ex : X.mvX x j = ⟨x.ws, A.show' (A.set x.s a.toNat (M.byte x.ws y)) (M.byte x.ws y), x.pc, x.st, x.ins, x.outs⟩ := X.mvX_to x j _ _ _ _ (by rw [e3]) (by rw [if_pos (Or.inl (e1.trans tz)), e2]) (by rw [e3]) (by rw [e3])
     rw [ex]
     refine (rmove_1w hA a b c i y _ u a0 (by omega) b0 (by omega) hadr.1 hadr.2 hy hv.1 hv.2 L).mono ?_
     rintro e w' ⟨he, hB, ai', ni', ci', h3⟩
     exact ⟨he, F, ⟨_, _, _, _, _, _, _, _, h3⟩, hB.turn hA.inE, fun k hk => Or.inl hk⟩
   · have h34 := X.bt_st x.ws y
     have ex : X.mvX x j = x := (X.mvX_to x j x.ws x.s x.ins x.outs (by rw [e3]) (by rw [if_neg (by rw [e1]; omega)]) (by rw [e3]) (by rw [e3])).trans rfl
     rw [ex]
     refine (rmove_1t hA a b c i y _ _ u a0 (by omega) b0 (by omega) hadr.1 hadr.2 hy tz L).mono ?_
     rintro e w' ⟨he, hK⟩
     exact ⟨he, F, ⟨_, _, _, _, _, _, _, _, hA.kept hK⟩, hK.turn F, fun k hk => Or.inl hk⟩
 · generalize hj : (⟨5, 2, a, b, c, i, u⟩ : I.Ins) = j at hadr
   have e1 : X.doT x j = X.swT x (X.adr x j) := by rw [← hj]; rfl
   have e2 : X.doS x j = x.s := by rw [← hj]; rfl
   have e3 : X.doX x j = ⟨X.swW x (X.adr x j) (x.s.r a.toNat), x.s, x.pc, x.st, x.ins, X.swO x (X.adr x j) (x.s.r a.toNat)⟩ := by rw [← hj]; rfl
   have hy : (x.s.r b.toNat + i % 4294967296) % 4294967296 = X.adr x j := by rw [← hj]; rfl
   generalize X.adr x j = y at *
   have hr := hA.ok.1 a.toNat (by omega)
   have es : (if X.doT x j = 0 ∨ X.doT x j = 1 then X.doS x j else x.s) = x.s := by rw [e2]; split <;> rfl
   by_cases h1 : y = 4294967236
   · have t0 : X.doT x j = 0 := by rw [e1]; exact if_pos h1
     have ex : X.mvX x j = ⟨x.ws, x.s, x.pc, x.st, x.ins, x.outs ++ [x.s.r a.toNat]⟩ := X.mvX_to x j _ _ _ _ (by rw [e3]; exact if_pos h1) es (by rw [e3]) (by rw [e3]; exact if_pos h1)
     rw [t0, ex]
     refine (rmove_2o hA a b c i y _ u a0 (by omega) b0 (by omega) hadr.1 hadr.2 hy rfl hr.1 hr.2 h1 hn).mono ?_
     rintro e w' ⟨he, F', ao', no', co', h3, h4, h5⟩
     exact ⟨he, F', ⟨_, _, _, _, _, _, _, _, h3⟩, h4, h5⟩
   · by_cases h2 : y = 4294967240
     · have t0 : X.doT x j = 1 := by rw [e1]; unfold X.swT; rw [if_neg h1, if_pos h2]
       have ex : X.mvX x j = x := (X.mvX_to x j x.ws x.s x.ins x.outs (by rw [e3]; show X.swW x y _ = _; unfold X.swW; rw [if_neg h1, if_pos h2]) es (by rw [e3]) (by rw [e3]; exact if_neg h1)).trans rfl
       rw [t0, ex]
       refine (rmove_2h hA a b c i y 0 u a0 (by omega) b0 (by omega) hadr.1 hadr.2 hy h2).mono ?_
       rintro e w' ⟨he, hK⟩
       exact ⟨he, F, ⟨_, _, _, _, _, _, _, _, hA.kept hK⟩, hK.turn F, fun k hk => Or.inl hk⟩
     · have t0 : X.doT x j = M.wt x.ws y := by rw [e1]; unfold X.swT; rw [if_neg h1, if_neg h2]
       have ex : X.mvX x j = ⟨M.setW x.ws y (x.s.r a.toNat), x.s, x.pc, x.st, x.ins, x.outs⟩ := X.mvX_to x j _ _ _ _ (by rw [e3]; show X.swW x y _ = _; unfold X.swW; rw [if_neg h1, if_neg h2]) es (by rw [e3]) (by rw [e3]; exact if_neg h1)
       rw [t0, ex]
       refine (rmove_2 hA a b c i y (M.wt x.ws y) (x.s.r a.toNat) u a0 (by omega) b0 (by omega) hadr.1 hadr.2 hy rfl h1 h2 (M.setW x.ws y (x.s.r a.toNat)) fun w' h' => (R.setW_any h'.mem y _ hadr.1 hadr.2 hr.1 hr.2).mono ?_).mono ?_
       · rintro e w2 ⟨he, h3, hB⟩
         exact ⟨he, hB, h'.words hB _ h3⟩
       · rintro e w' ⟨he, hB, h3⟩
         exact ⟨he, F, ⟨_, _, _, _, _, _, _, _, h3⟩, hB.turn hA.inC, fun k hk => Or.inl hk⟩
 · generalize hj : (⟨5, 3, a, b, c, i, u⟩ : I.Ins) = j at hadr
   have e1 : X.doT x j = M.bt x.ws (X.adr x j) := by rw [← hj]; rfl
   have e2 : X.doS x j = x.s := by rw [← hj]; rfl
   have e3 : X.doX x j = ⟨M.setB x.ws (X.adr x j) (x.s.r a.toNat % 256), x.s, x.pc, x.st, x.ins, x.outs⟩ := by rw [← hj]; rfl
   have hy : (x.s.r b.toNat + i % 4294967296) % 4294967296 = X.adr x j := by rw [← hj]; rfl
   generalize X.adr x j = y at *
   have es : (if X.doT x j = 0 ∨ X.doT x j = 1 then X.doS x j else x.s) = x.s := by rw [e2]; split <;> rfl
   have ex : X.mvX x j = ⟨M.setB x.ws y (x.s.r a.toNat % 256), x.s, x.pc, x.st, x.ins, x.outs⟩ := X.mvX_to x j _ _ _ _ (by rw [e3]) es (by rw [e3]) (by rw [e3])
   rw [e1, ex]
   refine (rmove_3 hA a b c i y (M.bt x.ws y) (x.s.r a.toNat % 256) u a0 (by omega) b0 (by omega) hadr.1 hadr.2 hy rfl (M.setB x.ws y (x.s.r a.toNat % 256)) fun w' h' => (R.setB_any h'.mem y _ hadr.1 hadr.2 (by omega) (by omega)).mono ?_).mono ?_
   · rintro e w2 ⟨he, h3, hB⟩
     exact ⟨he, hB, h'.words hB _ h3⟩
   · rintro e w' ⟨he, hB, h3⟩
     exact ⟨he, F, ⟨_, _, _, _, _, _, _, _, h3⟩, hB.turn hA.inC, fun k hk => Or.inl hk⟩
theorem RMac.at {F : Nat → Prop} {E : Nat} {x : X.St} {w : World} (h : RMac F E x w) : ∃ D si so, Has E (X.rc D x.s x.pc x.st si so) 50 w := by
 obtain ⟨D, C, ai, ni, ci, ao, no, co, h⟩ := h; exact ⟨D, _, _, h.box⟩
theorem RMac.pc {F : Nat → Prop} {E : Nat} {x : X.St} {w : World} (h : RMac F E x w) : w.cell? ⟨E, 22, none⟩ = some (.int .u32 x.pc) ∧ w.frozen? ⟨E, 22, none⟩ = false := by
 obtain ⟨D, si, so, h⟩ := h.at; exact ⟨h.cell 22 _ rfl, h.free 22⟩
theorem RMac.st {F : Nat → Prop} {E : Nat} {x : X.St} {w : World} (h : RMac F E x w) : w.cell? ⟨E, 23, none⟩ = some (.int .i64 x.st) ∧ w.frozen? ⟨E, 23, none⟩ = false := by
 obtain ⟨D, si, so, h⟩ := h.at; exact ⟨h.cell 23 _ rfl, h.free 23⟩
theorem RMac.inE {F : Nat → Prop} {E : Nat} {x : X.St} {w : World} (h : RMac F E x w) : F E := by obtain ⟨D, C, ai, ni, ci, ao, no, co, h⟩ := h; exact h.inE
theorem RMac.bounds {F : Nat → Prop} {E : Nat} {x : X.St} {w : World} (h : RMac F E x w) : A.Ok x.s ∧ 0 ≤ x.pc ∧ x.pc < 4294967296 ∧ (∀ y ∈ x.ws, 0 ≤ y ∧ y < 4294967296) ∧ (∀ y ∈ x.ins, 0 ≤ y ∧ y < 4294967296) := by
 obtain ⟨D, C, ai, ni, ci, ao, no, co, h⟩ := h; exact ⟨h.ok, h.pc0, h.pc1, h.mem.rng, h.ins.rng⟩
theorem RMac.range {F : Nat → Prop} {E : Nat} {x : X.St} {w : World} (h : RMac F E x w) : w.rangeAt E 1 (A.cells x.s).toList := by obtain ⟨D, si, so, h⟩ := h.at; exact X.rc_range h
theorem RMac.there {F : Nat → Prop} {E : Nat} {x : X.St} {w : World} (h : RMac F E x w) : w.there E 1 21 := by obtain ⟨D, si, so, h⟩ := h.at; exact h.there 1 21 (by rw [X.rc_size]; omega)
theorem RMac.reg {F : Nat → Prop} {E : Nat} {x : X.St} {w : World} (h : RMac F E x w) (j : Nat) (hj : j < 16) : w.cell? ⟨E, 1 + j, none⟩ = some (.int .u32 (x.s.r j)) ∧ w.frozen? ⟨E, 1 + j, none⟩ = false := by
 obtain ⟨D, si, so, h⟩ := h.at; exact ⟨h.cell _ _ (X.rc_r _ _ _ _ _ _ j hj), h.free _⟩
theorem RMac.setSt {F : Nat → Prop} {E : Nat} {x : X.St} {w : World} (h : RMac F E x w) (t : Int) : RMac F E ⟨x.ws, x.s, x.pc, t, x.ins, x.outs⟩ (w.setCell ⟨E, 23, none⟩ (.int .i64 t)) ∧ But E w (w.setCell ⟨E, 23, none⟩ (.int .i64 t)) := by
 obtain ⟨D, C, ai, ni, ci, ao, no, co, h⟩ := h
 have hB : But E w (w.setCell ⟨E, 23, none⟩ (.int .i64 t)) := (But.refl E w).setCell _ _
 have hb := h.box.set 23 (.int .i64 t)
 rw [X.rc_st] at hb
 exact ⟨⟨_, _, _, _, _, _, _, _, h.own hB _ _ _ hb h.ok h.pc0 h.pc1⟩, hB⟩
theorem RMac.setPc {F : Nat → Prop} {E : Nat} {x : X.St} {w : World} (h : RMac F E x w) (pc : Int) (p0 : 0 ≤ pc) (p1 : pc < 4294967296) : RMac F E ⟨x.ws, x.s, pc, x.st, x.ins, x.outs⟩ (w.setCell ⟨E, 22, none⟩ (.int .u32 pc)) ∧ But E w (w.setCell ⟨E, 22, none⟩ (.int .u32 pc)) := by
 obtain ⟨D, C, ai, ni, ci, ao, no, co, h⟩ := h
 have hB : But E w (w.setCell ⟨E, 22, none⟩ (.int .u32 pc)) := (But.refl E w).setCell _ _
 have hb := h.box.set 22 (.int .u32 pc)
 rw [X.rc_pc] at hb
 exact ⟨⟨_, _, _, _, _, _, _, _, h.own hB _ _ _ hb h.ok p0 p1⟩, hB⟩
theorem RMac.setRegs {F : Nat → Prop} {E : Nat} {x : X.St} {w : World} (h : RMac F E x w) (s : A.Regs) (ok : A.Ok s) : RMac F E ⟨x.ws, s, x.pc, x.st, x.ins, x.outs⟩ (w.setCells E 1 (A.cells s).toList) ∧ But E w (w.setCells E 1 (A.cells s).toList) := by
 obtain ⟨D, C, ai, ni, ci, ao, no, co, h⟩ := h
 have hB : But E w (w.setCells E 1 (A.cells s).toList) := but_setCells _ _ _ _ (But.refl E w)
 have hb := Has.setN (A.cells s).toList 1 _ w h.box
 rw [X.rc_regs] at hb
 exact ⟨⟨_, _, _, _, _, _, _, _, h.own hB _ _ _ hb ok h.pc0 h.pc1⟩, hB⟩
theorem RMac.setReg {F : Nat → Prop} {E : Nat} {x : X.St} {w : World} (h : RMac F E x w) (j : Nat) (hj : j < 16) (v : Int) (v0 : 0 ≤ v) (v1 : v < 4294967296) : RMac F E ⟨x.ws, A.set x.s j v, x.pc, x.st, x.ins, x.outs⟩ (w.setCell ⟨E, 1 + j, none⟩ (.int .u32 v)) ∧ But E w (w.setCell ⟨E, 1 + j, none⟩ (.int .u32 v)) := by
 obtain ⟨D, C, ai, ni, ci, ao, no, co, h⟩ := h
 have hB : But E w (w.setCell ⟨E, 1 + j, none⟩ (.int .u32 v)) := (But.refl E w).setCell _ _
 have hb := h.box.set (1 + j) (.int .u32 v)
 rw [X.rc_set _ _ _ _ _ _ j hj] at hb
 exact ⟨⟨_, _, _, _, _, _, _, _, h.own hB _ _ _ hb (A.ok_set _ _ _ h.ok v0 v1) h.pc0 h.pc1⟩, hB⟩
theorem RMac.word {F : Nat → Prop} {E : Nat} {x : X.St} {w : World} (h : RMac F E x w) : ∃ D, w.cell? ⟨E, 0, none⟩ = some (.pointer (some ⟨D, 0, none⟩)) ∧ ∀ w', Kept w w' → Calls Tryz.prog 29 #[.pointer (some ⟨D, 0, none⟩), .int .u32 x.pc] w' fun e w'' => e = .returned (.tuple #[.int .u32 (M.word x.ws x.pc), .int .i64 (M.wt x.ws x.pc)]) ∧ Kept w' w'' := by
 obtain ⟨D, C, ai, ni, ci, ao, no, co, h⟩ := h
 exact ⟨D, h.box.cell 0 _ rfl, fun w' hK => R.word_any (h.mem.kept hK) x.pc h.pc0 h.pc1⟩
theorem rstep_no {F : Nat → Prop} {E : Nat} {x : X.St} {w : World} (h : RMac F E x w) (h0 : ¬ x.st = 0) :
 Calls Tryz.prog 9 #[.pointer (some ⟨E, 0, none⟩)] w fun e w' => e = .returned (.int .i64 x.st) ∧ w = w' := by
 have cs := h.st.1
 have e0 : (x.st == 0) = false := by simpa using h0
 have e1 : (x.st != 0) = true := by simpa using h0
 go_enter Tryz.func9, Tryz.ntmps9
 go_wp2
 go_ret
 exact ⟨rfl, rfl⟩
set_option maxHeartbeats 2000000 in
theorem rstep_trap {F : Nat → Prop} {E : Nat} {x : X.St} {w : World} (h : RMac F E x w) (D : Nat) (v tw k op a b c i : Int) (u is : Bool) (h0 : x.st = 0)
 (cD : w.cell? ⟨E, 0, none⟩ = some (.pointer (some ⟨D, 0, none⟩)))
 (L : ∀ w', Kept w w' → Calls Tryz.prog 29 #[.pointer (some ⟨D, 0, none⟩), .int .u32 x.pc] w' fun e w'' => e = .returned (.tuple #[.int .u32 v, .int .i64 tw]) ∧ Kept w' w'')
 (DD : ∀ w, Calls Tryz.prog 30 #[.int .u32 v] w fun e w' => e = .returned (.tuple #[.agg #[.int .i64 k, .int .i64 op, .int .i64 a, .int .i64 b, .int .i64 c, .int .i64 i, .bool u], .bool is]) ∧ Kept w w') (ht : ¬ tw = 0) :
 Calls Tryz.prog 9 #[.pointer (some ⟨E, 0, none⟩)] w fun e w' => e = .returned (.int .i64 tw) ∧ RMac F E ⟨x.ws, x.s, x.pc, tw, x.ins, x.outs⟩ w' ∧ Turn F w w' := by
 have cs := h.st.1
 rw [h0] at cs
 have cp := h.pc.1
 have hEw : E < w.heap.size := h.sub E h.inE
 have hh := Lib.hid h
 clear h
 go_enter Tryz.func9, Tryz.ntmps9
 go_upto_region 3 with (fail)
 refine wp_region_held_drew (S := fun wz => Kept w wz) (by kernel_rfl) ?_ (fun hHeld => ?_)
 · exact (Kept.refl w).drew
 refine tk 0 _ (v := ?_) hHeld ?_ (tk 1 _ (v := ?_) hHeld ?_ (tk 2 _ (v := ?_) hHeld ?_ ?_))
 all_goals try (intro wz hSw; (try dsimp only at hSw); go_simp; with_reducible rfl)
 try simp only [Act.put, pq]
 refine tk 3 _ (v := ?_) hHeld ?_ ?_
 rotate_left
 · (intro wz hSw; (try dsimp only at hSw); have p1 : World.cell? wz ⟨E, 0, none⟩ = some (.pointer (some ⟨D, 0, none⟩)) := (hSw.cell hEw).trans cD; have p2 : World.cell? wz ⟨E, 22, none⟩ = some (.int .u32 x.pc) := (hSw.cell hEw).trans cp; go_simp; try with_reducible rfl)
 try simp only [Act.put, pq]
 refine tk 4 _ (v := ?_) hHeld ?_ (tk 5 _ (v := ?_) hHeld ?_ (tk 6 _ (v := ?_) hHeld ?_ ?_))
 all_goals try (intro wz hSw; (try dsimp only at hSw); go_simp; with_reducible rfl)
 try simp only [Act.put, pq]
 refine tk 7 _ (v := ?_) hHeld ?_ ?_
 rotate_left
 · (intro wz hSw; (try dsimp only at hSw); have p1 : World.cell? wz ⟨E, 0, none⟩ = some (.pointer (some ⟨D, 0, none⟩)) := (hSw.cell hEw).trans cD; have p2 : World.cell? wz ⟨E, 22, none⟩ = some (.int .u32 x.pc) := (hSw.cell hEw).trans cp; go_simp; try with_reducible rfl)
 try simp only [Act.put, pq]
 refine wpAnyH_ready (rs := [8]) (by kernel_rfl) (by simp) ?_
 refine AllReadyH.cons (o := _) rfl (fun K hK => ?_) (AllReadyH.nil)
 go_simp
 go_at_call 29
 refine (L _ hHeld).mono ?_
 rintro e wd ⟨rfl, hKd⟩
 have hN := (show (fun wz => Kept w wz) _ from hHeld.trans hKd)
 clear hHeld
 refine hK.out _ _ hN (fun hHeld => ?_)
 clear hK K hN
 try simp only [Act.put, pq]
 refine tk 9 _ (v := ?_) hHeld ?_ (tk 10 _ (v := ?_) hHeld ?_ (tk 11 _ (v := ?_) hHeld ?_ (tk 12 _ (v := ?_) hHeld ?_ (tk 13 _ (v := ?_) hHeld ?_ ?_))))
 all_goals try (intro wz hSw; (try dsimp only at hSw); go_simp; with_reducible rfl)
 try simp only [Act.put, pq]
 refine wpAnyH_done (by kernel_rfl) ?_ _
 have hK0 := Lib.hid hHeld
 clear hHeld hKd cs
 go_wp2_with (fail)
 refine (DD _).mono ?_; rintro e w2 ⟨rfl, hK2⟩
 have hK := hK0.out.trans (hK2.alloc #[.int .i64 k, .int .i64 op, .int .i64 a, .int .i64 b, .int .i64 c, .int .i64 i, .bool u] 76)
 have hI := Lib.hid (Has.new #[.int .i64 k, .int .i64 op, .int .i64 a, .int .i64 b, .int .i64 c, .int .i64 i, .bool u] 76 w2)
 have hM := Lib.hid (hh.out.kept hK)
 have st3 := hM.out.st
 have c3 := st3.1
 have f3 := st3.2
 have p3 := hM.out.pc.1
 have hT := Lib.hid (hK.turn F)
 have hsz : w.heap.size ≤ w2.heap.size := Nat.le_trans hK0.out.size hK2.size
 clear hK hK0 hK2 st3 hh cp cD L DD
 have t1 : (tw == 0) = false := by simpa using ht
 have t2 : (tw != 0) = true := by simpa using ht
 have hS := hM.out.setSt tw
 have hT2 := Lib.hid (hT.out.trans (hS.2.turn hM.out.inE))
 replace hS := Lib.hid hS.1
 clear hM hI hT
 go_upto_region 5 with (fail)
 go_wp2
 go_ret
 exact ⟨rfl, hS.out, hT2.out⟩
set_option maxHeartbeats 2000000 in
theorem rstep_ill {F : Nat → Prop} {E : Nat} {x : X.St} {w : World} (h : RMac F E x w) (D : Nat) (v tw k op a b c i : Int) (u is : Bool) (h0 : x.st = 0)
 (cD : w.cell? ⟨E, 0, none⟩ = some (.pointer (some ⟨D, 0, none⟩)))
 (L : ∀ w', Kept w w' → Calls Tryz.prog 29 #[.pointer (some ⟨D, 0, none⟩), .int .u32 x.pc] w' fun e w'' => e = .returned (.tuple #[.int .u32 v, .int .i64 tw]) ∧ Kept w' w'')
 (DD : ∀ w, Calls Tryz.prog 30 #[.int .u32 v] w fun e w' => e = .returned (.tuple #[.agg #[.int .i64 k, .int .i64 op, .int .i64 a, .int .i64 b, .int .i64 c, .int .i64 i, .bool u], .bool is]) ∧ Kept w w') (ht : tw = 0) (hi : is = false) :
 Calls Tryz.prog 9 #[.pointer (some ⟨E, 0, none⟩)] w fun e w' => e = .returned (.int .i64 2) ∧ RMac F E ⟨x.ws, x.s, x.pc, 2, x.ins, x.outs⟩ w' ∧ Turn F w w' := by
 subst ht
 subst hi
 have cs := h.st.1
 rw [h0] at cs
 have cp := h.pc.1
 have hEw : E < w.heap.size := h.sub E h.inE
 have hh := Lib.hid h
 clear h
 go_enter Tryz.func9, Tryz.ntmps9
 go_upto_region 3 with (fail)
 refine wp_region_held_drew (S := fun wz => Kept w wz) (by kernel_rfl) ?_ (fun hHeld => ?_)
 · exact (Kept.refl w).drew
 refine tk 0 _ (v := ?_) hHeld ?_ (tk 1 _ (v := ?_) hHeld ?_ (tk 2 _ (v := ?_) hHeld ?_ ?_))
 all_goals try (intro wz hSw; (try dsimp only at hSw); go_simp; with_reducible rfl)
 try simp only [Act.put, pq]
 refine tk 3 _ (v := ?_) hHeld ?_ ?_
 rotate_left
 · (intro wz hSw; (try dsimp only at hSw); have p1 : World.cell? wz ⟨E, 0, none⟩ = some (.pointer (some ⟨D, 0, none⟩)) := (hSw.cell hEw).trans cD; have p2 : World.cell? wz ⟨E, 22, none⟩ = some (.int .u32 x.pc) := (hSw.cell hEw).trans cp; go_simp; try with_reducible rfl)
 try simp only [Act.put, pq]
 refine tk 4 _ (v := ?_) hHeld ?_ (tk 5 _ (v := ?_) hHeld ?_ (tk 6 _ (v := ?_) hHeld ?_ ?_))
 all_goals try (intro wz hSw; (try dsimp only at hSw); go_simp; with_reducible rfl)
 try simp only [Act.put, pq]
 refine tk 7 _ (v := ?_) hHeld ?_ ?_
 rotate_left
 · (intro wz hSw; (try dsimp only at hSw); have p1 : World.cell? wz ⟨E, 0, none⟩ = some (.pointer (some ⟨D, 0, none⟩)) := (hSw.cell hEw).trans cD; have p2 : World.cell? wz ⟨E, 22, none⟩ = some (.int .u32 x.pc) := (hSw.cell hEw).trans cp; go_simp; try with_reducible rfl)
 try simp only [Act.put, pq]
 refine wpAnyH_ready (rs := [8]) (by kernel_rfl) (by simp) ?_
 refine AllReadyH.cons (o := _) rfl (fun K hK => ?_) (AllReadyH.nil)
 go_simp
 go_at_call 29
 refine (L _ hHeld).mono ?_
 rintro e wd ⟨rfl, hKd⟩
 have hN := (show (fun wz => Kept w wz) _ from hHeld.trans hKd)
 clear hHeld
 refine hK.out _ _ hN (fun hHeld => ?_)
 clear hK K hN
 try simp only [Act.put, pq]
 refine tk 9 _ (v := ?_) hHeld ?_ (tk 10 _ (v := ?_) hHeld ?_ (tk 11 _ (v := ?_) hHeld ?_ (tk 12 _ (v := ?_) hHeld ?_ (tk 13 _ (v := ?_) hHeld ?_ ?_))))
 all_goals try (intro wz hSw; (try dsimp only at hSw); go_simp; with_reducible rfl)
 try simp only [Act.put, pq]
 refine wpAnyH_done (by kernel_rfl) ?_ _
 have hK0 := Lib.hid hHeld
 clear hHeld hKd cs
 go_wp2_with (fail)
 refine (DD _).mono ?_; rintro e w2 ⟨rfl, hK2⟩
 have hK := hK0.out.trans (hK2.alloc #[.int .i64 k, .int .i64 op, .int .i64 a, .int .i64 b, .int .i64 c, .int .i64 i, .bool u] 76)
 have hI := Lib.hid (Has.new #[.int .i64 k, .int .i64 op, .int .i64 a, .int .i64 b, .int .i64 c, .int .i64 i, .bool u] 76 w2)
 have hM := Lib.hid (hh.out.kept hK)
 have st3 := hM.out.st
 have c3 := st3.1
 have f3 := st3.2
 have p3 := hM.out.pc.1
 have hT := Lib.hid (hK.turn F)
 have hsz : w.heap.size ≤ w2.heap.size := Nat.le_trans hK0.out.size hK2.size
 clear hK hK0 hK2 st3 hh cp cD L DD
 have hS := hM.out.setSt 2
 have hT2 := Lib.hid (hT.out.trans (hS.2.turn hM.out.inE))
 replace hS := Lib.hid hS.1
 clear hM hI hT
 go_wp2
 go_ret
 exact ⟨rfl, hS.out, hT2.out⟩
set_option maxHeartbeats 2000000 in
theorem rstep_5 {F : Nat → Prop} {E : Nat} {x : X.St} {w : World} (h : RMac F E x w) (D : Nat) (v tw k op a b c i : Int) (u is : Bool) (h0 : x.st = 0)
 (cD : w.cell? ⟨E, 0, none⟩ = some (.pointer (some ⟨D, 0, none⟩)))
 (L : ∀ w', Kept w w' → Calls Tryz.prog 29 #[.pointer (some ⟨D, 0, none⟩), .int .u32 x.pc] w' fun e w'' => e = .returned (.tuple #[.int .u32 v, .int .i64 tw]) ∧ Kept w' w'')
 (DD : ∀ w, Calls Tryz.prog 30 #[.int .u32 v] w fun e w' => e = .returned (.tuple #[.agg #[.int .i64 k, .int .i64 op, .int .i64 a, .int .i64 b, .int .i64 c, .int .i64 i, .bool u], .bool is]) ∧ Kept w w') (x' : X.St) (t y : Int) (ht : tw = 0) (hi : is = true) (y0 : 0 ≤ y) (y1 : y < 4294967296) (hk : k = 5) (hy : (x.pc + 4) % 4294967296 = y)
 (O : ∀ w, RMac F E x w → Calls Tryz.prog 31 #[.pointer (some ⟨E, 0, none⟩), .agg #[.int .i64 k, .int .i64 op, .int .i64 a, .int .i64 b, .int .i64 c, .int .i64 i, .bool u]] w fun e w' => e = .returned (.int .i64 t) ∧ ∃ F', RMac F' E x' w' ∧ Turn F w w' ∧ ∀ k, F' k → F k ∨ w.heap.size ≤ k) :
 Calls Tryz.prog 9 #[.pointer (some ⟨E, 0, none⟩)] w fun e w' => e = .returned (.int .i64 t) ∧ ∃ F', RMac F' E (if t = 0 ∨ t = 1 then ⟨x'.ws, x'.s, y, t, x'.ins, x'.outs⟩ else ⟨x'.ws, x'.s, x'.pc, t, x'.ins, x'.outs⟩) w' ∧ Turn F w w' ∧ ∀ k, F' k → F k ∨ w.heap.size ≤ k := by
 subst ht
 subst hi
 subst hk
 generalize hxe : (if t = 0 ∨ t = 1 then (⟨x'.ws, x'.s, y, t, x'.ins, x'.outs⟩ : X.St) else ⟨x'.ws, x'.s, x'.pc, t, x'.ins, x'.outs⟩) = x2
 have cs := h.st.1
 rw [h0] at cs
 have cp := h.pc.1
 have hEw : E < w.heap.size := h.sub E h.inE
 have hh := Lib.hid h
 clear h
 go_enter Tryz.func9, Tryz.ntmps9
 go_upto_region 3 with (fail)
 refine wp_region_held_drew (S := fun wz => Kept w wz) (by kernel_rfl) ?_ (fun hHeld => ?_)
 · exact (Kept.refl w).drew
 refine tk 0 _ (v := ?_) hHeld ?_ (tk 1 _ (v := ?_) hHeld ?_ (tk 2 _ (v := ?_) hHeld ?_ ?_))
 all_goals try (intro wz hSw; (try dsimp only at hSw); go_simp; with_reducible rfl)
 try simp only [Act.put, pq]
 refine tk 3 _ (v := ?_) hHeld ?_ ?_
 rotate_left
 · (intro wz hSw; (try dsimp only at hSw); have p1 : World.cell? wz ⟨E, 0, none⟩ = some (.pointer (some ⟨D, 0, none⟩)) := (hSw.cell hEw).trans cD; have p2 : World.cell? wz ⟨E, 22, none⟩ = some (.int .u32 x.pc) := (hSw.cell hEw).trans cp; go_simp; try with_reducible rfl)
 try simp only [Act.put, pq]
 refine tk 4 _ (v := ?_) hHeld ?_ (tk 5 _ (v := ?_) hHeld ?_ (tk 6 _ (v := ?_) hHeld ?_ ?_))
 all_goals try (intro wz hSw; (try dsimp only at hSw); go_simp; with_reducible rfl)
 try simp only [Act.put, pq]
 refine tk 7 _ (v := ?_) hHeld ?_ ?_
 rotate_left
 · (intro wz hSw; (try dsimp only at hSw); have p1 : World.cell? wz ⟨E, 0, none⟩ = some (.pointer (some ⟨D, 0, none⟩)) := (hSw.cell hEw).trans cD; have p2 : World.cell? wz ⟨E, 22, none⟩ = some (.int .u32 x.pc) := (hSw.cell hEw).trans cp; go_simp; try with_reducible rfl)
 try simp only [Act.put, pq]
 refine wpAnyH_ready (rs := [8]) (by kernel_rfl) (by simp) ?_
 refine AllReadyH.cons (o := _) rfl (fun K hK => ?_) (AllReadyH.nil)
 go_simp
 go_at_call 29
 refine (L _ hHeld).mono ?_
 rintro e wd ⟨rfl, hKd⟩
 have hN := (show (fun wz => Kept w wz) _ from hHeld.trans hKd)
 clear hHeld
 refine hK.out _ _ hN (fun hHeld => ?_)
 clear hK K hN
 try simp only [Act.put, pq]
 refine tk 9 _ (v := ?_) hHeld ?_ (tk 10 _ (v := ?_) hHeld ?_ (tk 11 _ (v := ?_) hHeld ?_ (tk 12 _ (v := ?_) hHeld ?_ (tk 13 _ (v := ?_) hHeld ?_ ?_))))
 all_goals try (intro wz hSw; (try dsimp only at hSw); go_simp; with_reducible rfl)
 try simp only [Act.put, pq]
 refine wpAnyH_done (by kernel_rfl) ?_ _
 have hK0 := Lib.hid hHeld
 clear hHeld hKd cs
 go_wp2_with (fail)
 refine (DD _).mono ?_; rintro e w2 ⟨rfl, hK2⟩
 have hK := hK0.out.trans (hK2.alloc #[.int .i64 5, .int .i64 op, .int .i64 a, .int .i64 b, .int .i64 c, .int .i64 i, .bool u] 76)
 have hI := Lib.hid (Has.new #[.int .i64 5, .int .i64 op, .int .i64 a, .int .i64 b, .int .i64 c, .int .i64 i, .bool u] 76 w2)
 have hM := Lib.hid (hh.out.kept hK)
 have st3 := hM.out.st
 have c3 := st3.1
 have f3 := st3.2
 have p3 := hM.out.pc.1
 have hT := Lib.hid (hK.turn F)
 have hsz : w.heap.size ≤ w2.heap.size := Nat.le_trans hK0.out.size hK2.size
 clear hK hK0 hK2 st3 hh cp cD L DD
 have hsw := (Has.lt hI.out)
 go_wp2_with (with_reducible refine load_has rfl 76 _ rfl _ rfl hI.out Tryz.underlying76 rfl (by kernel_rfl) ?_)
 refine (O _ hM.out).mono ?_; rintro e wz ⟨rfl, F', q1, q2, q3⟩
 have hMz := Lib.hid q1
 have hTz := Lib.hid (hT.out.trans q2)
 have hF : ∀ k, F' k → F k ∨ w.heap.size ≤ k := fun k hk => by rcases q3 k hk with h1 | h1; exact Or.inl h1; exact Or.inr (by omega)
 clear q1 q2 q3 hT hM hI O c3 f3 p3
 by_cases t01 : t = 0 ∨ t = 1
 · rw [if_pos t01] at hxe
   subst hxe
   have c25 := hMz.out.st.1
   have f25 := hMz.out.st.2
   have hS := hMz.out.setSt t
   have hB1 := hS.2
   have c27 := hS.1.pc.1
   have f27 := hS.1.pc.2
   have hP := hS.1.setPc y y0 y1
   have hTf := Lib.hid (hTz.out.then ((hB1.trans hP.2).turn (F := F') hMz.out.inE) hF)
   replace hP := Lib.hid hP.1
   replace hS := Lib.hid hS.1
   clear hMz hTz hB1
   rcases t01 with rfl | rfl
   all_goals
    go_upto_region 26 with (fail)
    generalize World.setCell _ ⟨E, 23, none⟩ _ = wq at *
    go_wp2
    go_ret
    exact ⟨rfl, F', hP.out, hTf.out, hF⟩
 · rw [if_neg t01] at hxe
   subst hxe
   have c25 := hMz.out.st.1
   have f25 := hMz.out.st.2
   have hS := hMz.out.setSt t
   have hTf := Lib.hid (hTz.out.then (hS.2.turn (F := F') hMz.out.inE) hF)
   replace hS := Lib.hid hS.1
   clear hMz hTz
   have n0 : ¬ t = 0 := fun e => t01 (Or.inl e)
   have n1 : ¬ t = 1 := fun e => t01 (Or.inr e)
   have n2 : (t == 0) = false := by simpa using n0
   have n3 : (t == 1) = false := by simpa using n1
   go_wp2
   go_ret
   exact ⟨rfl, F', hS.out, hTf.out, hF⟩
set_option maxHeartbeats 2000000 in
theorem rstep_6 {F : Nat → Prop} {E : Nat} {x : X.St} {w : World} (h : RMac F E x w) (D : Nat) (v tw k op a b c i : Int) (u is : Bool) (h0 : x.st = 0)
 (cD : w.cell? ⟨E, 0, none⟩ = some (.pointer (some ⟨D, 0, none⟩)))
 (L : ∀ w', Kept w w' → Calls Tryz.prog 29 #[.pointer (some ⟨D, 0, none⟩), .int .u32 x.pc] w' fun e w'' => e = .returned (.tuple #[.int .u32 v, .int .i64 tw]) ∧ Kept w' w'')
 (DD : ∀ w, Calls Tryz.prog 30 #[.int .u32 v] w fun e w' => e = .returned (.tuple #[.agg #[.int .i64 k, .int .i64 op, .int .i64 a, .int .i64 b, .int .i64 c, .int .i64 i, .bool u], .bool is]) ∧ Kept w w') (S' : A.Regs) (y n : Int) (tk : Bool) (ht : tw = 0) (hi : is = true) (y0 : 0 ≤ y) (y1 : y < 4294967296) (n0 : 0 ≤ n) (n1 : n < 4294967296) (hk : k = 6) (hn : (x.pc + 4) % 4294967296 = n) (c0 : 0 ≤ c) (c1 : c < 16) (i0 : -8388608 ≤ i) (i1 : i < 8388608)
 (CT : ∀ w, Calls Tryz.prog 32 #[.agg (A.cells x.s), .int .i64 op] w fun e w' => e = .returned (.bool tk) ∧ Kept w w')
 (hy : (tk = false ∧ S' = x.s ∧ y = n) ∨ (tk = true ∧ S' = (if u = true then A.set x.s 15 n else x.s) ∧ y = x.s.r c.toNat)) :
 Calls Tryz.prog 9 #[.pointer (some ⟨E, 0, none⟩)] w fun e w' => e = .returned (.int .i64 0) ∧ RMac F E ⟨x.ws, S', y, 0, x.ins, x.outs⟩ w' ∧ Turn F w w' := by
 subst ht
 subst hi
 subst hk
 have cs := h.st.1
 rw [h0] at cs
 have cp := h.pc.1
 have hEw : E < w.heap.size := h.sub E h.inE
 have hh := Lib.hid h
 clear h
 go_enter Tryz.func9, Tryz.ntmps9
 go_upto_region 3 with (fail)
 refine wp_region_held_drew (S := fun wz => Kept w wz) (by kernel_rfl) ?_ (fun hHeld => ?_)
 · exact (Kept.refl w).drew
 refine Go.Proofs.YtpfgmfiegnkocaaGreat.tk 0 _ (v := ?_) hHeld ?_ (Go.Proofs.YtpfgmfiegnkocaaGreat.tk 1 _ (v := ?_) hHeld ?_ (Go.Proofs.YtpfgmfiegnkocaaGreat.tk 2 _ (v := ?_) hHeld ?_ ?_))
 all_goals try (intro wz hSw; (try dsimp only at hSw); go_simp; with_reducible rfl)
 try simp only [Act.put, pq]
 refine Go.Proofs.YtpfgmfiegnkocaaGreat.tk 3 _ (v := ?_) hHeld ?_ ?_
 rotate_left
 · (intro wz hSw; (try dsimp only at hSw); have p1 : World.cell? wz ⟨E, 0, none⟩ = some (.pointer (some ⟨D, 0, none⟩)) := (hSw.cell hEw).trans cD; have p2 : World.cell? wz ⟨E, 22, none⟩ = some (.int .u32 x.pc) := (hSw.cell hEw).trans cp; go_simp; try with_reducible rfl)
 try simp only [Act.put, pq]
 refine Go.Proofs.YtpfgmfiegnkocaaGreat.tk 4 _ (v := ?_) hHeld ?_ (Go.Proofs.YtpfgmfiegnkocaaGreat.tk 5 _ (v := ?_) hHeld ?_ (Go.Proofs.YtpfgmfiegnkocaaGreat.tk 6 _ (v := ?_) hHeld ?_ ?_))
 all_goals try (intro wz hSw; (try dsimp only at hSw); go_simp; with_reducible rfl)
 try simp only [Act.put, pq]
 refine Go.Proofs.YtpfgmfiegnkocaaGreat.tk 7 _ (v := ?_) hHeld ?_ ?_
 rotate_left
 · (intro wz hSw; (try dsimp only at hSw); have p1 : World.cell? wz ⟨E, 0, none⟩ = some (.pointer (some ⟨D, 0, none⟩)) := (hSw.cell hEw).trans cD; have p2 : World.cell? wz ⟨E, 22, none⟩ = some (.int .u32 x.pc) := (hSw.cell hEw).trans cp; go_simp; try with_reducible rfl)
 try simp only [Act.put, pq]
 refine wpAnyH_ready (rs := [8]) (by kernel_rfl) (by simp) ?_
 refine AllReadyH.cons (o := _) rfl (fun K hK => ?_) (AllReadyH.nil)
 go_simp
 go_at_call 29
 refine (L _ hHeld).mono ?_
 rintro e wd ⟨rfl, hKd⟩
 have hN := (show (fun wz => Kept w wz) _ from hHeld.trans hKd)
 clear hHeld
 refine hK.out _ _ hN (fun hHeld => ?_)
 clear hK K hN
 try simp only [Act.put, pq]
 refine Go.Proofs.YtpfgmfiegnkocaaGreat.tk 9 _ (v := ?_) hHeld ?_ (Go.Proofs.YtpfgmfiegnkocaaGreat.tk 10 _ (v := ?_) hHeld ?_ (Go.Proofs.YtpfgmfiegnkocaaGreat.tk 11 _ (v := ?_) hHeld ?_ (Go.Proofs.YtpfgmfiegnkocaaGreat.tk 12 _ (v := ?_) hHeld ?_ (Go.Proofs.YtpfgmfiegnkocaaGreat.tk 13 _ (v := ?_) hHeld ?_ ?_))))
 all_goals try (intro wz hSw; (try dsimp only at hSw); go_simp; with_reducible rfl)
 try simp only [Act.put, pq]
 refine wpAnyH_done (by kernel_rfl) ?_ _
 have hK0 := Lib.hid hHeld
 clear hHeld hKd cs
 go_wp2_with (fail)
 refine (DD _).mono ?_; rintro e w2 ⟨rfl, hK2⟩
 have hK := hK0.out.trans (hK2.alloc #[.int .i64 6, .int .i64 op, .int .i64 a, .int .i64 b, .int .i64 c, .int .i64 i, .bool u] 76)
 have hI := Lib.hid (Has.new #[.int .i64 6, .int .i64 op, .int .i64 a, .int .i64 b, .int .i64 c, .int .i64 i, .bool u] 76 w2)
 have hM := Lib.hid (hh.out.kept hK)
 have st3 := hM.out.st
 have c3 := st3.1
 have f3 := st3.2
 have p3 := hM.out.pc.1
 have hT := Lib.hid (hK.turn F)
 have hsz : w.heap.size ≤ w2.heap.size := Nat.le_trans hK0.out.size hK2.size
 clear hK hK0 hK2 st3 hh cp cD L DD
 have w4 : wrap64 (4 * i) = 4 * i := by unfold wrap64; omega
 go_upto_region 18 with (fail)
 generalize w2.heap.size = g at *
 generalize w2.alloc (Obj.cells _ _) = w3 at *
 refine wp_region_held_drew (S := fun wz => Kept w3 wz) (by kernel_rfl) ?_ (fun hHeld => ?_)
 · exact (Kept.refl w3).drew
 refine Go.Proofs.YtpfgmfiegnkocaaGreat.tk 0 _ (v := ?_) hHeld ?_ (Go.Proofs.YtpfgmfiegnkocaaGreat.tk 1 _ (v := ?_) hHeld ?_ (Go.Proofs.YtpfgmfiegnkocaaGreat.tk 2 _ (v := ?_) hHeld ?_ ?_))
 all_goals try (intro wz hSw; (try dsimp only at hSw); go_simp; with_reducible rfl)
 try simp only [Act.put, pq]
 refine Go.Proofs.YtpfgmfiegnkocaaGreat.tk 3 _ (v := ?_) hHeld ?_ ?_
 rotate_left
 · (intro wz hSw; refine exec_load_mid 48 (Operand.tmp 80) ?_ E 1 ?_ (A.cells x.s) (hM.out.kept hSw).range Tryz.underlying48 rfl (A.info25 _) <;> rfl)
 try simp only [Act.put, pq]
 refine Go.Proofs.YtpfgmfiegnkocaaGreat.tk 4 _ (v := ?_) hHeld ?_ ?_
 rotate_left
 · (intro wz hSw; (try dsimp only at hSw); go_simp; try with_reducible rfl)
 try simp only [Act.put, pq]
 refine Go.Proofs.YtpfgmfiegnkocaaGreat.tk 5 _ (v := ?_) hHeld ?_ ?_
 rotate_left
 · (intro wz hSw; (try dsimp only at hSw); have p1 : World.cell? wz ⟨g, 1, none⟩ = some (.int .i64 op) := (hI.out.kept hSw).cell 1 _ rfl; go_simp; try with_reducible rfl)
 try simp only [Act.put, pq]
 refine wpAnyH_ready (rs := [6]) (by kernel_rfl) (by simp) ?_
 refine AllReadyH.cons (o := _) rfl (fun K hK => ?_) (AllReadyH.nil)
 go_simp
 go_at_call 32
 refine (CT _).mono ?_
 rintro e we ⟨rfl, hKe⟩
 have hN := (show (fun wz => Kept w3 wz) _ from hHeld.trans hKe)
 clear hHeld
 refine hK.out _ _ hN (fun hHeld => ?_)
 clear hK K hN
 try simp only [Act.put, pq]
 refine wpAnyH_done (by kernel_rfl) ?_ _
 have hMe := hM.out.kept hHeld
 have hTe := Lib.hid (hT.out.trans (hHeld.turn F))
 have hIe := hI.out.kept hHeld
 have j0 : we.cell? ⟨g, 0, none⟩ = some (.int .i64 6) := hIe.cell 0 _ rfl
 have j4 : we.cell? ⟨g, 4, none⟩ = some (.int .i64 c) := hIe.cell 4 _ rfl
 have j5 : we.cell? ⟨g, 5, none⟩ = some (.int .i64 i) := hIe.cell 5 _ rfl
 have j6 : we.cell? ⟨g, 6, none⟩ = some (.bool u) := hIe.cell 6 _ rfl
 skip
 replace hIe := Lib.hid hIe
 replace hMe := Lib.hid hMe
 clear hHeld hKe hM hI hT c3 f3 p3 CT
 rcases hy with ⟨rfl, rfl, rfl⟩ | ⟨rfl, hS', hy⟩
 · have c25 := hMe.out.st.1
   have f25 := hMe.out.st.2
   have hS := hMe.out.setSt 0
   have hB1 := hS.2
   have c27 := hS.1.pc.1
   have f27 := hS.1.pc.2
   have hP := hS.1.setPc y y0 y1
   have hTf := Lib.hid (hTe.out.trans ((hB1.trans hP.2).turn (F := F) hMe.out.inE))
   replace hP := Lib.hid hP.1
   replace hS := Lib.hid hS.1
   clear hB1
   go_upto_region 26 with (fail)
   generalize World.setCell _ ⟨E, 23, none⟩ _ = wq at *
   go_wp2
   go_ret
   exact ⟨rfl, hP.out, hTf.out⟩
 · skip
   have k4 := (hMe.out.reg c.toNat (by omega)).1
   replace hy := Lib.hid hy
   go_upto_region 21 with (fail)
   replace hy := hy.out
   refine WS.start 8 (by kernel_rfl) (by kernel_rfl) ?_
   intro wf hwf
   have l4 : wf.cell? ⟨g, 4, none⟩ = some (.int .i64 c) := by rw [hwf]; exact j4
   have l5 : wf.cell? ⟨E, 1 + c.toNat, none⟩ = some (.int .u32 y) := by rw [hwf, hy]; exact k4
   clear hy
   have l6 : wf.cell? ⟨g, 6, none⟩ = some (.bool u) := by rw [hwf]; exact j6
   have hMf := Lib.hid (show RMac F E x wf by rw [hwf]; exact hMe.out.kept (Kept.refl we).drew)
   have hTg := Lib.hid (show Turn F w wf by rw [hwf]; exact hTe.out.drew)
   clear hwf j0 j4 j5 j6 k4 hMe hTe hIe
   simp only [List.take_succ_cons, List.take_zero, List.drop_succ_cons, List.drop_zero]
   iterate 8 (refine WS.step rfl (fun K hK => ?_); go_simp; refine hK _ ?_; clear hK K)
   refine WS.nil ?_
   cases u
   · rw [if_neg (by simp)] at hS'
     subst hS'
     have c25 := hMf.out.st.1
     have f25 := hMf.out.st.2
     have hS := hMf.out.setSt 0
     have hB1 := hS.2
     have c27 := hS.1.pc.1
     have f27 := hS.1.pc.2
     have hP := hS.1.setPc y y0 y1
     have hTf := Lib.hid (hTg.out.trans ((hB1.trans hP.2).turn (F := F) hMf.out.inE))
     replace hP := Lib.hid hP.1
     replace hS := Lib.hid hS.1
     clear hB1
     go_upto_region 26 with (fail)
     generalize World.setCell _ ⟨E, 23, none⟩ _ = wq at *
     go_wp2
     go_ret
     exact ⟨rfl, hP.out, hTf.out⟩
   · rw [if_pos rfl] at hS'
     have k15 := (hMf.out.reg 15 (by omega)).1
     have g15 := (hMf.out.reg 15 (by omega)).2
     have hR15 := hMf.out.setReg 15 (by omega) n n0 n1
     rw [← hS'] at hR15
     clear hS'
     have hT15 := Lib.hid (hTg.out.trans (hR15.2.turn (F := F) hMf.out.inE))
     replace hR15 := Lib.hid hR15.1
     clear hMf hTg
     go_upto_region 24 with (fail)
     generalize World.setCell _ _ _ = wr at *
     have c25 := hR15.out.st.1
     have f25 := hR15.out.st.2
     have hS := hR15.out.setSt 0
     have hB1 := hS.2
     have c27 := hS.1.pc.1
     have f27 := hS.1.pc.2
     have hP := hS.1.setPc y y0 y1
     have hTf := Lib.hid (hT15.out.trans ((hB1.trans hP.2).turn (F := F) hR15.out.inE))
     replace hP := Lib.hid hP.1
     replace hS := Lib.hid hS.1
     clear hB1
     go_upto_region 26 with (fail)
     generalize World.setCell _ ⟨E, 23, none⟩ _ = wq at *
     go_wp2
     go_ret
     exact ⟨rfl, hP.out, hTf.out⟩
set_option maxHeartbeats 2000000 in
theorem rstep_7 {F : Nat → Prop} {E : Nat} {x : X.St} {w : World} (h : RMac F E x w) (D : Nat) (v tw k op a b c i : Int) (u is : Bool) (h0 : x.st = 0)
 (cD : w.cell? ⟨E, 0, none⟩ = some (.pointer (some ⟨D, 0, none⟩)))
 (L : ∀ w', Kept w w' → Calls Tryz.prog 29 #[.pointer (some ⟨D, 0, none⟩), .int .u32 x.pc] w' fun e w'' => e = .returned (.tuple #[.int .u32 v, .int .i64 tw]) ∧ Kept w' w'')
 (DD : ∀ w, Calls Tryz.prog 30 #[.int .u32 v] w fun e w' => e = .returned (.tuple #[.agg #[.int .i64 k, .int .i64 op, .int .i64 a, .int .i64 b, .int .i64 c, .int .i64 i, .bool u], .bool is]) ∧ Kept w w') (S' : A.Regs) (y n : Int) (tk : Bool) (ht : tw = 0) (hi : is = true) (y0 : 0 ≤ y) (y1 : y < 4294967296) (n0 : 0 ≤ n) (n1 : n < 4294967296) (hk : k = 7) (hn : (x.pc + 4) % 4294967296 = n) (c0 : 0 ≤ c) (c1 : c < 16) (i0 : -8388608 ≤ i) (i1 : i < 8388608)
 (CT : ∀ w, Calls Tryz.prog 32 #[.agg (A.cells x.s), .int .i64 op] w fun e w' => e = .returned (.bool tk) ∧ Kept w w')
 (hy : (tk = false ∧ S' = x.s ∧ y = n) ∨ (tk = true ∧ S' = (if u = true then A.set x.s 15 n else x.s) ∧ (n + 4 * i) % 4294967296 = y)) :
 Calls Tryz.prog 9 #[.pointer (some ⟨E, 0, none⟩)] w fun e w' => e = .returned (.int .i64 0) ∧ RMac F E ⟨x.ws, S', y, 0, x.ins, x.outs⟩ w' ∧ Turn F w w' := by
 subst ht
 subst hi
 subst hk
 have cs := h.st.1
 rw [h0] at cs
 have cp := h.pc.1
 have hEw : E < w.heap.size := h.sub E h.inE
 have hh := Lib.hid h
 clear h
 go_enter Tryz.func9, Tryz.ntmps9
 go_upto_region 3 with (fail)
 refine wp_region_held_drew (S := fun wz => Kept w wz) (by kernel_rfl) ?_ (fun hHeld => ?_)
 · exact (Kept.refl w).drew
 refine Go.Proofs.YtpfgmfiegnkocaaGreat.tk 0 _ (v := ?_) hHeld ?_ (Go.Proofs.YtpfgmfiegnkocaaGreat.tk 1 _ (v := ?_) hHeld ?_ (Go.Proofs.YtpfgmfiegnkocaaGreat.tk 2 _ (v := ?_) hHeld ?_ ?_))
 all_goals try (intro wz hSw; (try dsimp only at hSw); go_simp; with_reducible rfl)
 try simp only [Act.put, pq]
 refine Go.Proofs.YtpfgmfiegnkocaaGreat.tk 3 _ (v := ?_) hHeld ?_ ?_
 rotate_left
 · (intro wz hSw; (try dsimp only at hSw); have p1 : World.cell? wz ⟨E, 0, none⟩ = some (.pointer (some ⟨D, 0, none⟩)) := (hSw.cell hEw).trans cD; have p2 : World.cell? wz ⟨E, 22, none⟩ = some (.int .u32 x.pc) := (hSw.cell hEw).trans cp; go_simp; try with_reducible rfl)
 try simp only [Act.put, pq]
 refine Go.Proofs.YtpfgmfiegnkocaaGreat.tk 4 _ (v := ?_) hHeld ?_ (Go.Proofs.YtpfgmfiegnkocaaGreat.tk 5 _ (v := ?_) hHeld ?_ (Go.Proofs.YtpfgmfiegnkocaaGreat.tk 6 _ (v := ?_) hHeld ?_ ?_))
 all_goals try (intro wz hSw; (try dsimp only at hSw); go_simp; with_reducible rfl)
 try simp only [Act.put, pq]
 refine Go.Proofs.YtpfgmfiegnkocaaGreat.tk 7 _ (v := ?_) hHeld ?_ ?_
 rotate_left
 · (intro wz hSw; (try dsimp only at hSw); have p1 : World.cell? wz ⟨E, 0, none⟩ = some (.pointer (some ⟨D, 0, none⟩)) := (hSw.cell hEw).trans cD; have p2 : World.cell? wz ⟨E, 22, none⟩ = some (.int .u32 x.pc) := (hSw.cell hEw).trans cp; go_simp; try with_reducible rfl)
 try simp only [Act.put, pq]
 refine wpAnyH_ready (rs := [8]) (by kernel_rfl) (by simp) ?_
 refine AllReadyH.cons (o := _) rfl (fun K hK => ?_) (AllReadyH.nil)
 go_simp
 go_at_call 29
 refine (L _ hHeld).mono ?_
 rintro e wd ⟨rfl, hKd⟩
 have hN := (show (fun wz => Kept w wz) _ from hHeld.trans hKd)
 clear hHeld
 refine hK.out _ _ hN (fun hHeld => ?_)
 clear hK K hN
 try simp only [Act.put, pq]
 refine Go.Proofs.YtpfgmfiegnkocaaGreat.tk 9 _ (v := ?_) hHeld ?_ (Go.Proofs.YtpfgmfiegnkocaaGreat.tk 10 _ (v := ?_) hHeld ?_ (Go.Proofs.YtpfgmfiegnkocaaGreat.tk 11 _ (v := ?_) hHeld ?_ (Go.Proofs.YtpfgmfiegnkocaaGreat.tk 12 _ (v := ?_) hHeld ?_ (Go.Proofs.YtpfgmfiegnkocaaGreat.tk 13 _ (v := ?_) hHeld ?_ ?_))))
 all_goals try (intro wz hSw; (try dsimp only at hSw); go_simp; with_reducible rfl)
 try simp only [Act.put, pq]
 refine wpAnyH_done (by kernel_rfl) ?_ _
 have hK0 := Lib.hid hHeld
 clear hHeld hKd cs
 go_wp2_with (fail)
 refine (DD _).mono ?_; rintro e w2 ⟨rfl, hK2⟩
 have hK := hK0.out.trans (hK2.alloc #[.int .i64 7, .int .i64 op, .int .i64 a, .int .i64 b, .int .i64 c, .int .i64 i, .bool u] 76)
 have hI := Lib.hid (Has.new #[.int .i64 7, .int .i64 op, .int .i64 a, .int .i64 b, .int .i64 c, .int .i64 i, .bool u] 76 w2)
 have hM := Lib.hid (hh.out.kept hK)
 have st3 := hM.out.st
 have c3 := st3.1
 have f3 := st3.2
 have p3 := hM.out.pc.1
 have hT := Lib.hid (hK.turn F)
 have hsz : w.heap.size ≤ w2.heap.size := Nat.le_trans hK0.out.size hK2.size
 clear hK hK0 hK2 st3 hh cp cD L DD
 have w4 : wrap64 (4 * i) = 4 * i := by unfold wrap64; omega
 go_upto_region 18 with (fail)
 generalize w2.heap.size = g at *
 generalize w2.alloc (Obj.cells _ _) = w3 at *
 refine wp_region_held_drew (S := fun wz => Kept w3 wz) (by kernel_rfl) ?_ (fun hHeld => ?_)
 · exact (Kept.refl w3).drew
 refine Go.Proofs.YtpfgmfiegnkocaaGreat.tk 0 _ (v := ?_) hHeld ?_ (Go.Proofs.YtpfgmfiegnkocaaGreat.tk 1 _ (v := ?_) hHeld ?_ (Go.Proofs.YtpfgmfiegnkocaaGreat.tk 2 _ (v := ?_) hHeld ?_ ?_))
 all_goals try (intro wz hSw; (try dsimp only at hSw); go_simp; with_reducible rfl)
 try simp only [Act.put, pq]
 refine Go.Proofs.YtpfgmfiegnkocaaGreat.tk 3 _ (v := ?_) hHeld ?_ ?_
 rotate_left
 · (intro wz hSw; refine exec_load_mid 48 (Operand.tmp 80) ?_ E 1 ?_ (A.cells x.s) (hM.out.kept hSw).range Tryz.underlying48 rfl (A.info25 _) <;> rfl)
 try simp only [Act.put, pq]
 refine Go.Proofs.YtpfgmfiegnkocaaGreat.tk 4 _ (v := ?_) hHeld ?_ ?_
 rotate_left
 · (intro wz hSw; (try dsimp only at hSw); go_simp; try with_reducible rfl)
 try simp only [Act.put, pq]
 refine Go.Proofs.YtpfgmfiegnkocaaGreat.tk 5 _ (v := ?_) hHeld ?_ ?_
 rotate_left
 · (intro wz hSw; (try dsimp only at hSw); have p1 : World.cell? wz ⟨g, 1, none⟩ = some (.int .i64 op) := (hI.out.kept hSw).cell 1 _ rfl; go_simp; try with_reducible rfl)
 try simp only [Act.put, pq]
 refine wpAnyH_ready (rs := [6]) (by kernel_rfl) (by simp) ?_
 refine AllReadyH.cons (o := _) rfl (fun K hK => ?_) (AllReadyH.nil)
 go_simp
 go_at_call 32
 refine (CT _).mono ?_
 rintro e we ⟨rfl, hKe⟩
 have hN := (show (fun wz => Kept w3 wz) _ from hHeld.trans hKe)
 clear hHeld
 refine hK.out _ _ hN (fun hHeld => ?_)
 clear hK K hN
 try simp only [Act.put, pq]
 refine wpAnyH_done (by kernel_rfl) ?_ _
 have hMe := hM.out.kept hHeld
 have hTe := Lib.hid (hT.out.trans (hHeld.turn F))
 have hIe := hI.out.kept hHeld
 have j0 : we.cell? ⟨g, 0, none⟩ = some (.int .i64 7) := hIe.cell 0 _ rfl
 have j4 : we.cell? ⟨g, 4, none⟩ = some (.int .i64 c) := hIe.cell 4 _ rfl
 have j5 : we.cell? ⟨g, 5, none⟩ = some (.int .i64 i) := hIe.cell 5 _ rfl
 have j6 : we.cell? ⟨g, 6, none⟩ = some (.bool u) := hIe.cell 6 _ rfl
 skip
 replace hIe := Lib.hid hIe
 replace hMe := Lib.hid hMe
 clear hHeld hKe hM hI hT c3 f3 p3 CT
 rcases hy with ⟨rfl, rfl, rfl⟩ | ⟨rfl, hS', hy⟩
 · have c25 := hMe.out.st.1
   have f25 := hMe.out.st.2
   have hS := hMe.out.setSt 0
   have hB1 := hS.2
   have c27 := hS.1.pc.1
   have f27 := hS.1.pc.2
   have hP := hS.1.setPc y y0 y1
   have hTf := Lib.hid (hTe.out.trans ((hB1.trans hP.2).turn (F := F) hMe.out.inE))
   replace hP := Lib.hid hP.1
   replace hS := Lib.hid hS.1
   clear hB1
   go_upto_region 26 with (fail)
   generalize World.setCell _ ⟨E, 23, none⟩ _ = wq at *
   go_wp2
   go_ret
   exact ⟨rfl, hP.out, hTf.out⟩
 · skip
   cases u
   · rw [if_neg (by simp)] at hS'
     subst hS'
     have c25 := hMe.out.st.1
     have f25 := hMe.out.st.2
     have hS := hMe.out.setSt 0
     have hB1 := hS.2
     have c27 := hS.1.pc.1
     have f27 := hS.1.pc.2
     have hP := hS.1.setPc y y0 y1
     have hTf := Lib.hid (hTe.out.trans ((hB1.trans hP.2).turn (F := F) hMe.out.inE))
     replace hP := Lib.hid hP.1
     replace hS := Lib.hid hS.1
     clear hB1
     go_upto_region 26 with (fail)
     generalize World.setCell _ ⟨E, 23, none⟩ _ = wq at *
     go_wp2
     go_ret
     exact ⟨rfl, hP.out, hTf.out⟩
   · rw [if_pos rfl] at hS'
     have k15 := (hMe.out.reg 15 (by omega)).1
     have g15 := (hMe.out.reg 15 (by omega)).2
     have hR15 := hMe.out.setReg 15 (by omega) n n0 n1
     rw [← hS'] at hR15
     clear hS'
     have hT15 := Lib.hid (hTe.out.trans (hR15.2.turn (F := F) hMe.out.inE))
     replace hR15 := Lib.hid hR15.1
     clear hMe hTe
     go_upto_region 24 with (fail)
     generalize World.setCell _ _ _ = wr at *
     have c25 := hR15.out.st.1
     have f25 := hR15.out.st.2
     have hS := hR15.out.setSt 0
     have hB1 := hS.2
     have c27 := hS.1.pc.1
     have f27 := hS.1.pc.2
     have hP := hS.1.setPc y y0 y1
     have hTf := Lib.hid (hT15.out.trans ((hB1.trans hP.2).turn (F := F) hR15.out.inE))
     replace hP := Lib.hid hP.1
     replace hS := Lib.hid hS.1
     clear hB1
     go_upto_region 26 with (fail)
     generalize World.setCell _ ⟨E, 23, none⟩ _ = wq at *
     go_wp2
     go_ret
     exact ⟨rfl, hP.out, hTf.out⟩
set_option maxHeartbeats 2000000 in
theorem rstep_0 {F : Nat → Prop} {E : Nat} {x : X.St} {w : World} (h : RMac F E x w) (D : Nat) (v tw k op a b c i : Int) (u is : Bool) (h0 : x.st = 0)
 (cD : w.cell? ⟨E, 0, none⟩ = some (.pointer (some ⟨D, 0, none⟩)))
 (L : ∀ w', Kept w w' → Calls Tryz.prog 29 #[.pointer (some ⟨D, 0, none⟩), .int .u32 x.pc] w' fun e w'' => e = .returned (.tuple #[.int .u32 v, .int .i64 tw]) ∧ Kept w' w'')
 (DD : ∀ w, Calls Tryz.prog 30 #[.int .u32 v] w fun e w' => e = .returned (.tuple #[.agg #[.int .i64 k, .int .i64 op, .int .i64 a, .int .i64 b, .int .i64 c, .int .i64 i, .bool u], .bool is]) ∧ Kept w w') (S' : A.Regs) (t y : Int) (ht : tw = 0) (hi : is = true) (y0 : 0 ≤ y) (y1 : y < 4294967296) (okS : A.Ok S') (k5 : ¬ k = 5) (k6 : ¬ k = 6) (k7 : ¬ k = 7) (hy : (x.pc + 4) % 4294967296 = y)
 (CD : ∀ w, Calls Tryz.prog 33 #[.agg (A.cells x.s), .agg #[.int .i64 k, .int .i64 op, .int .i64 a, .int .i64 b, .int .i64 c, .int .i64 i, .bool u]] w fun e w' => e = .returned (.tuple #[.agg (A.cells S'), .int .i64 t]) ∧ Kept w w') :
 Calls Tryz.prog 9 #[.pointer (some ⟨E, 0, none⟩)] w fun e w' => e = .returned (.int .i64 t) ∧ ∃ F', RMac F' E (if t = 0 ∨ t = 1 then ⟨x.ws, S', y, t, x.ins, x.outs⟩ else ⟨x.ws, S', x.pc, t, x.ins, x.outs⟩) w' ∧ Turn F w w' ∧ ∀ k, F' k → F k ∨ w.heap.size ≤ k := by
 subst ht
 subst hi
 generalize hxe : (if t = 0 ∨ t = 1 then (⟨x.ws, S', y, t, x.ins, x.outs⟩ : X.St) else ⟨x.ws, S', x.pc, t, x.ins, x.outs⟩) = x2
 have cs := h.st.1
 rw [h0] at cs
 have cp := h.pc.1
 have hEw : E < w.heap.size := h.sub E h.inE
 have hh := Lib.hid h
 clear h
 go_enter Tryz.func9, Tryz.ntmps9
 go_upto_region 3 with (fail)
 refine wp_region_held_drew (S := fun wz => Kept w wz) (by kernel_rfl) ?_ (fun hHeld => ?_)
 · exact (Kept.refl w).drew
 refine tk 0 _ (v := ?_) hHeld ?_ (tk 1 _ (v := ?_) hHeld ?_ (tk 2 _ (v := ?_) hHeld ?_ ?_))
 all_goals try (intro wz hSw; (try dsimp only at hSw); go_simp; with_reducible rfl)
 try simp only [Act.put, pq]
 refine tk 3 _ (v := ?_) hHeld ?_ ?_
 rotate_left
 · (intro wz hSw; (try dsimp only at hSw); have p1 : World.cell? wz ⟨E, 0, none⟩ = some (.pointer (some ⟨D, 0, none⟩)) := (hSw.cell hEw).trans cD; have p2 : World.cell? wz ⟨E, 22, none⟩ = some (.int .u32 x.pc) := (hSw.cell hEw).trans cp; go_simp; try with_reducible rfl)
 try simp only [Act.put, pq]
 refine tk 4 _ (v := ?_) hHeld ?_ (tk 5 _ (v := ?_) hHeld ?_ (tk 6 _ (v := ?_) hHeld ?_ ?_))
 all_goals try (intro wz hSw; (try dsimp only at hSw); go_simp; with_reducible rfl)
 try simp only [Act.put, pq]
 refine tk 7 _ (v := ?_) hHeld ?_ ?_
 rotate_left
 · (intro wz hSw; (try dsimp only at hSw); have p1 : World.cell? wz ⟨E, 0, none⟩ = some (.pointer (some ⟨D, 0, none⟩)) := (hSw.cell hEw).trans cD; have p2 : World.cell? wz ⟨E, 22, none⟩ = some (.int .u32 x.pc) := (hSw.cell hEw).trans cp; go_simp; try with_reducible rfl)
 try simp only [Act.put, pq]
 refine wpAnyH_ready (rs := [8]) (by kernel_rfl) (by simp) ?_
 refine AllReadyH.cons (o := _) rfl (fun K hK => ?_) (AllReadyH.nil)
 go_simp
 go_at_call 29
 refine (L _ hHeld).mono ?_
 rintro e wd ⟨rfl, hKd⟩
 have hN := (show (fun wz => Kept w wz) _ from hHeld.trans hKd)
 clear hHeld
 refine hK.out _ _ hN (fun hHeld => ?_)
 clear hK K hN
 try simp only [Act.put, pq]
 refine tk 9 _ (v := ?_) hHeld ?_ (tk 10 _ (v := ?_) hHeld ?_ (tk 11 _ (v := ?_) hHeld ?_ (tk 12 _ (v := ?_) hHeld ?_ (tk 13 _ (v := ?_) hHeld ?_ ?_))))
 all_goals try (intro wz hSw; (try dsimp only at hSw); go_simp; with_reducible rfl)
 try simp only [Act.put, pq]
 refine wpAnyH_done (by kernel_rfl) ?_ _
 have hK0 := Lib.hid hHeld
 clear hHeld hKd cs
 go_wp2_with (fail)
 refine (DD _).mono ?_; rintro e w2 ⟨rfl, hK2⟩
 have hK := hK0.out.trans (hK2.alloc #[.int .i64 k, .int .i64 op, .int .i64 a, .int .i64 b, .int .i64 c, .int .i64 i, .bool u] 76)
 have hI := Lib.hid (Has.new #[.int .i64 k, .int .i64 op, .int .i64 a, .int .i64 b, .int .i64 c, .int .i64 i, .bool u] 76 w2)
 have hM := Lib.hid (hh.out.kept hK)
 have st3 := hM.out.st
 have c3 := st3.1
 have f3 := st3.2
 have p3 := hM.out.pc.1
 have hT := Lib.hid (hK.turn F)
 have hsz : w.heap.size ≤ w2.heap.size := Nat.le_trans hK0.out.size hK2.size
 clear hK hK0 hK2 st3 hh cp cD L DD
 have e5 : (k == 5) = false := by simpa using k5
 have e6 : (k == 6) = false := by simpa using k6
 have e7 : (k == 7) = false := by simpa using k7
 have hgE : w2.heap.size ≠ E := by omega
 go_upto_region 13 with (fail)
 generalize w2.heap.size = g at *
 generalize w2.alloc (Obj.cells _ _) = w3 at *
 have hMd := Lib.hid (show RMac F E x w3.drew from hM.out.kept (Kept.refl w3).drew)
 clear hM
 refine wp_region_held_drew (S := fun wz => Has g #[.int .i64 k, .int .i64 op, .int .i64 a, .int .i64 b, .int .i64 c, .int .i64 i, .bool u] 76 wz) (by kernel_rfl) ?_ (fun hHeld => ?_)
 · exact hI.out
 refine tk 0 _ (v := ?_) hHeld ?_ (tk 1 _ (v := ?_) hHeld ?_ (tk 2 _ (v := ?_) hHeld ?_ (tk 3 _ (v := ?_) hHeld ?_ ?_)))
 all_goals try (intro wz hSw; (try dsimp only at hSw); go_simp; with_reducible rfl)
 try simp only [Act.put, pq]
 refine tk 5 _ (v := ?_) hHeld ?_ ?_
 rotate_left
 · (intro wz hSw; refine exec_load_has 76 (Operand.tmp 5) ?_ _ ?_ hSw Tryz.underlying76 rfl (by kernel_rfl) <;> rfl)
 try simp only [Act.put, pq]
 refine wpAnyH_ready (rs := [4]) (by kernel_rfl) (by simp) ?_
 refine AllReadyH.cons (o := _) rfl (fun K hK => ?_) (AllReadyH.nil)
 refine wp_load_mid (op := { dst := some 63, op := Op.load 48 (Operand.tmp 62), type := 48, pos := "ref.go:108", after := #[eD 3], guard := none }) 48 _ rfl E 1 rfl (A.cells x.s).toList _ hMd.out.range Tryz.underlying48 rfl (by rw [Array.length_toList]; exact A.info25 _) ?_
 rw [Array.toArray_toList]
 have hN := (show (fun wz => Has g #[.int .i64 k, .int .i64 op, .int .i64 a, .int .i64 b, .int .i64 c, .int .i64 i, .bool u] 76 wz) _ from hHeld)
 clear hHeld
 refine hK.out _ _ hN (fun hHeld => ?_)
 clear hK K hN
 try simp only [Act.put, pq]
 refine wpAnyH_ready (rs := [6]) (by kernel_rfl) (by simp) ?_
 refine AllReadyH.cons (o := _) rfl (fun K hK => ?_) (AllReadyH.nil)
 go_simp
 go_at_call 33
 refine (CD _).mono ?_
 rintro e we ⟨rfl, hKe⟩
 have hN := (show (fun wz => Has g #[.int .i64 k, .int .i64 op, .int .i64 a, .int .i64 b, .int .i64 c, .int .i64 i, .bool u] 76 wz) _ from hHeld.kept hKe)
 clear hHeld
 refine hK.out _ _ hN (fun hHeld => ?_)
 clear hK K hN
 try simp only [Act.put, pq]
 refine tk 7 _ (v := ?_) hHeld ?_ (tk 8 _ (v := ?_) hHeld ?_ (tk 9 _ (v := ?_) hHeld ?_ (tk 10 _ (v := ?_) hHeld ?_ (tk 11 _ (v := ?_) hHeld ?_ ?_))))
 all_goals try (intro wz hSw; (try dsimp only at hSw); go_simp; with_reducible rfl)
 try simp only [Act.put, pq]
 refine wpAnyH_ready (rs := [12]) (by kernel_rfl) (by simp) ?_
 refine AllReadyH.cons (o := _) rfl (fun K hK => ?_) (AllReadyH.nil)
 have hMe := hMd.out.kept hKe
 have hthe := hMe.there
 refine wp_store_mid (op := { dst := none, op := Op.store 48 (Operand.tmp 69) (Operand.tmp 66), type := 0, pos := "ref.go:108", after := #[eD 11, eD 8, eC 6, eP 0, eP 1, eP 2, eP 3, eP 4, eP 5, eP 6, eP 7, eP 8, eT 9], guard := none }) 48 _ _ rfl E 1 (A.cells S') rfl rfl hthe (A.info25 _) (A.one_cells _) ?_
 have hR := hMe.setRegs S' okS
 generalize World.setCells _ _ _ _ = wf at *
 have hN := (show (fun wz => Has g #[.int .i64 k, .int .i64 op, .int .i64 a, .int .i64 b, .int .i64 c, .int .i64 i, .bool u] 76 wz) _ from hR.2.has hgE hHeld)
 clear hHeld
 refine hK.out _ _ hN (fun hHeld => ?_)
 clear hK K hN
 try simp only [Act.put, pq]
 refine tk 13 _ (v := ?_) hHeld ?_ ?_
 rotate_left
 · (intro wz hSw; (try dsimp only at hSw); go_simp; try with_reducible rfl)
 try simp only [Act.put, pq]
 refine wpAnyH_done (by kernel_rfl) ?_ _
 have hMz := Lib.hid hR.1
 have hTz := Lib.hid (hT.out.trans ((((Kept.refl w3).drew.trans hKe).turn F).trans (hR.2.turn hMe.inE)))
 have hF : ∀ k, F k → F k ∨ w.heap.size ≤ k := fun k hk => Or.inl hk
 clear hR hMe hMd hHeld hKe hT hI c3 f3 p3 CD
 by_cases t01 : t = 0 ∨ t = 1
 · rw [if_pos t01] at hxe
   subst hxe
   have c25 := hMz.out.st.1
   have f25 := hMz.out.st.2
   have hS := hMz.out.setSt t
   have hB1 := hS.2
   have c27 := hS.1.pc.1
   have f27 := hS.1.pc.2
   have hP := hS.1.setPc y y0 y1
   have hTf := Lib.hid (hTz.out.then ((hB1.trans hP.2).turn (F := F) hMz.out.inE) hF)
   replace hP := Lib.hid hP.1
   replace hS := Lib.hid hS.1
   clear hMz hTz hB1
   rcases t01 with rfl | rfl
   all_goals
    go_upto_region 26 with (fail)
    generalize World.setCell _ ⟨E, 23, none⟩ _ = wq at *
    go_wp2
    go_ret
    exact ⟨rfl, F, hP.out, hTf.out, hF⟩
 · rw [if_neg t01] at hxe
   subst hxe
   have c25 := hMz.out.st.1
   have f25 := hMz.out.st.2
   have hS := hMz.out.setSt t
   have hTf := Lib.hid (hTz.out.then (hS.2.turn (F := F) hMz.out.inE) hF)
   replace hS := Lib.hid hS.1
   clear hMz hTz
   have n0 : ¬ t = 0 := fun e => t01 (Or.inl e)
   have n1 : ¬ t = 1 := fun e => t01 (Or.inr e)
   have n2 : (t == 0) = false := by simpa using n0
   have n3 : (t == 1) = false := by simpa using n1
   go_wp2
   go_ret
   exact ⟨rfl, F, hS.out, hTf.out, hF⟩
theorem rstep_any {F : Nat → Prop} {E : Nat} {x : X.St} {w : World} (h : RMac F E x w) (hn : x.outs.length < 1000000) :
 Calls Tryz.prog 9 #[.pointer (some ⟨E, 0, none⟩)] w fun e w' => e = .returned (.int .i64 (X.step x).st) ∧ ∃ F', RMac F' E (X.step x) w' ∧ Turn F w w' ∧ ∀ k, F' k → F k ∨ w.heap.size ≤ k := by
 by_cases h0 : x.st = 0
 · have hb := h.bounds
   have hW := X.word_ok x.ws x.pc hb.2.2.2.1
   obtain ⟨D, cD, L⟩ := h.word
   have DD := fun w => rdec_any (M.word x.ws x.pc) hW w
   have e0 : X.step x = ⟨(X.nextX x).ws, (X.nextX x).s, (X.nextX x).pc, X.nextT x, (X.nextX x).ins, (X.nextX x).outs⟩ := by unfold X.step; rw [if_pos h0]
   by_cases ht : M.wt x.ws x.pc = 0
   · by_cases hi : I.is (M.word x.ws x.pc) = true
     · have e1 : X.nextT x = X.doT x (I.dec (M.word x.ws x.pc)) := by unfold X.nextT; rw [if_pos ht, if_pos hi]
       have e2 : X.nextX x = if X.doT x (I.dec (M.word x.ws x.pc)) = 0 ∨ X.doT x (I.dec (M.word x.ws x.pc)) = 1 then ⟨(X.doX x (I.dec (M.word x.ws x.pc))).ws, X.doS x (I.dec (M.word x.ws x.pc)), X.doP x (I.dec (M.word x.ws x.pc)), x.st, (X.doX x (I.dec (M.word x.ws x.pc))).ins, (X.doX x (I.dec (M.word x.ws x.pc))).outs⟩ else X.doX x (I.dec (M.word x.ws x.pc)) := by unfold X.nextX; rw [if_pos ⟨ht, hi⟩]
       have hm := I.dec_may _ hi
       have es : X.step x = if X.doT x (I.dec (M.word x.ws x.pc)) = 0 ∨ X.doT x (I.dec (M.word x.ws x.pc)) = 1 then ⟨(X.doX x (I.dec (M.word x.ws x.pc))).ws, X.doS x (I.dec (M.word x.ws x.pc)), X.doP x (I.dec (M.word x.ws x.pc)), X.doT x (I.dec (M.word x.ws x.pc)), (X.doX x (I.dec (M.word x.ws x.pc))).ins, (X.doX x (I.dec (M.word x.ws x.pc))).outs⟩ else ⟨(X.doX x (I.dec (M.word x.ws x.pc))).ws, x.s, x.pc, X.doT x (I.dec (M.word x.ws x.pc)), (X.doX x (I.dec (M.word x.ws x.pc))).ins, (X.doX x (I.dec (M.word x.ws x.pc))).outs⟩ := by
        rw [e0, e1, e2]
        have hq := X.doX_eq x (I.dec (M.word x.ws x.pc))
        by_cases c : X.doT x (I.dec (M.word x.ws x.pc)) = 0 ∨ X.doT x (I.dec (M.word x.ws x.pc)) = 1
        · rw [if_pos c, if_pos c]
        · rw [if_neg c, if_neg c, hq.1, hq.2.1]
       rw [es]
       clear e0 e1 e2 es
       generalize I.dec (M.word x.ws x.pc) = j at *
       obtain ⟨k, op, a, b, c, i, u⟩ := j
       have hbe := X.beh_ok x
       have hc := hm.1
       simp only at hc
       by_cases k5 : k = 5
       · subst k5
         have hP : X.doP x ⟨5, op, a, b, c, i, u⟩ = X.beh x := by unfold X.doP; rw [if_neg (by simp)]
         refine (rstep_5 h D _ _ 5 op a b c i u _ h0 cD L DD (X.mvX x ⟨5, op, a, b, c, i, u⟩) _ (X.beh x) ht hi hbe.1 hbe.2 rfl rfl fun w' h' => rmove_any h' op a b c i u hm hn).mono ?_
         rintro e w' ⟨he, F', p1, p2, p3⟩
         have hx : (if X.doT x ⟨5, op, a, b, c, i, u⟩ = 0 ∨ X.doT x ⟨5, op, a, b, c, i, u⟩ = 1 then (⟨(X.mvX x ⟨5, op, a, b, c, i, u⟩).ws, (X.mvX x ⟨5, op, a, b, c, i, u⟩).s, X.beh x, X.doT x ⟨5, op, a, b, c, i, u⟩, (X.mvX x ⟨5, op, a, b, c, i, u⟩).ins, (X.mvX x ⟨5, op, a, b, c, i, u⟩).outs⟩ : X.St) else ⟨(X.mvX x ⟨5, op, a, b, c, i, u⟩).ws, (X.mvX x ⟨5, op, a, b, c, i, u⟩).s, (X.mvX x ⟨5, op, a, b, c, i, u⟩).pc, X.doT x ⟨5, op, a, b, c, i, u⟩, (X.mvX x ⟨5, op, a, b, c, i, u⟩).ins, (X.mvX x ⟨5, op, a, b, c, i, u⟩).outs⟩)
          = if X.doT x ⟨5, op, a, b, c, i, u⟩ = 0 ∨ X.doT x ⟨5, op, a, b, c, i, u⟩ = 1 then ⟨(X.doX x ⟨5, op, a, b, c, i, u⟩).ws, X.doS x ⟨5, op, a, b, c, i, u⟩, X.doP x ⟨5, op, a, b, c, i, u⟩, X.doT x ⟨5, op, a, b, c, i, u⟩, (X.doX x ⟨5, op, a, b, c, i, u⟩).ins, (X.doX x ⟨5, op, a, b, c, i, u⟩).outs⟩ else ⟨(X.doX x ⟨5, op, a, b, c, i, u⟩).ws, x.s, x.pc, X.doT x ⟨5, op, a, b, c, i, u⟩, (X.doX x ⟨5, op, a, b, c, i, u⟩).ins, (X.doX x ⟨5, op, a, b, c, i, u⟩).outs⟩ := by
          unfold X.mvX
          by_cases t01 : X.doT x ⟨5, op, a, b, c, i, u⟩ = 0 ∨ X.doT x ⟨5, op, a, b, c, i, u⟩ = 1
          · rw [if_pos t01, if_pos t01, if_pos t01, hP]
          · rw [if_neg t01, if_neg t01, if_neg t01]
         rw [hx] at p1
         refine ⟨?_, F', p1, p2, p3⟩
         rw [he]
         split <;> rfl
       · have hX : X.doX x ⟨k, op, a, b, c, i, u⟩ = x := by unfold X.doX; rw [if_neg k5]
         by_cases k67 : k = 6 ∨ k = 7
         · have e1 : X.doS x ⟨k, op, a, b, c, i, u⟩ = X.brS x.s (X.beh x) op u := by unfold X.doS; rw [if_neg k5, if_pos k67]
           have e2 : X.doP x ⟨k, op, a, b, c, i, u⟩ = X.brP x.s (X.beh x) k op c i := by unfold X.doP; rw [if_pos k67]
           have e3 : X.doT x ⟨k, op, a, b, c, i, u⟩ = 0 := by unfold X.doT; rw [if_neg k5, if_pos k67]
           rw [e1, e2, e3, hX, if_pos (Or.inl rfl)]
           have hp := X.brP_ok x.s (X.beh x) k op c i hb.1 hbe.1 hbe.2 (by omega)
           have hm2 := hm.2
           simp only at hm2
           have fin : ∀ (e : Ending) (w' : World), (e = .returned (.int .i64 0) ∧ RMac F E ⟨x.ws, X.brS x.s (X.beh x) op u, X.brP x.s (X.beh x) k op c i, 0, x.ins, x.outs⟩ w' ∧ Turn F w w') → e = .returned (.int .i64 0) ∧ ∃ F', RMac F' E ⟨x.ws, X.brS x.s (X.beh x) op u, X.brP x.s (X.beh x) k op c i, 0, x.ins, x.outs⟩ w' ∧ Turn F w w' ∧ ∀ k, F' k → F k ∨ w.heap.size ≤ k := fun e w' hh => ⟨hh.1, F, hh.2.1, hh.2.2, fun k hk => Or.inl hk⟩
           rcases k67 with rfl | rfl
           · refine (rstep_6 h D _ _ 6 op a b c i u _ h0 cD L DD _ _ (X.beh x) (A.taken x.s op) ht hi hp.1 hp.2 hbe.1 hbe.2 rfl rfl (by omega) (by omega) (by omega) (by omega) (fun w => rtaken_any x.s op w) ?_).mono fun e w' hh => fin e w' hh
             cases htk : A.taken x.s op
             · exact Or.inl ⟨rfl, by unfold X.brS; rw [if_neg (by rw [htk]; simp)], by unfold X.brP; rw [if_neg (by rw [htk]; simp)]⟩
             · refine Or.inr ⟨rfl, ?_, by unfold X.brP; rw [if_pos htk, if_pos rfl]⟩
               unfold X.brS
               cases u
               · rw [if_neg (by simp), if_neg (by simp)]
               · rw [if_pos ⟨htk, rfl⟩, if_pos rfl]
           · refine (rstep_7 h D _ _ 7 op a b c i u _ h0 cD L DD _ _ (X.beh x) (A.taken x.s op) ht hi hp.1 hp.2 hbe.1 hbe.2 rfl rfl (by omega) (by omega) (by omega) (by omega) (fun w => rtaken_any x.s op w) ?_).mono fun e w' hh => fin e w' hh
             cases htk : A.taken x.s op
             · exact Or.inl ⟨rfl, by unfold X.brS; rw [if_neg (by rw [htk]; simp)], by unfold X.brP; rw [if_neg (by rw [htk]; simp)]⟩
             · refine Or.inr ⟨rfl, ?_, by unfold X.brP; rw [if_pos htk, if_neg (by omega)]⟩
               unfold X.brS
               cases u
               · rw [if_neg (by simp), if_neg (by simp)]
               · rw [if_pos ⟨htk, rfl⟩, if_pos rfl]
         · have e1 : X.doS x ⟨k, op, a, b, c, i, u⟩ = (A.run x.s ⟨k, op, a, b, c, i, u⟩).1 := by unfold X.doS; rw [if_neg k5, if_neg k67]
           have e2 : X.doP x ⟨k, op, a, b, c, i, u⟩ = X.beh x := by unfold X.doP; rw [if_neg k67]
           have e3 : X.doT x ⟨k, op, a, b, c, i, u⟩ = (A.run x.s ⟨k, op, a, b, c, i, u⟩).2 := by unfold X.doT; rw [if_neg k5, if_neg k67]
           rw [e1, e2, e3, hX]
           refine (rstep_0 h D _ _ k op a b c i u _ h0 cD L DD _ _ (X.beh x) ht hi hbe.1 hbe.2 (A.run_ok _ _ hb.1) k5 (fun e => k67 (Or.inl e)) (fun e => k67 (Or.inr e)) rfl fun w => rdo_run x.s k op a b c i u hb.1 w).mono ?_
           rintro e w' ⟨he, F', p1, p2, p3⟩
           have hx : (if (A.run x.s ⟨k, op, a, b, c, i, u⟩).2 = 0 ∨ (A.run x.s ⟨k, op, a, b, c, i, u⟩).2 = 1 then (⟨x.ws, (A.run x.s ⟨k, op, a, b, c, i, u⟩).1, X.beh x, (A.run x.s ⟨k, op, a, b, c, i, u⟩).2, x.ins, x.outs⟩ : X.St) else ⟨x.ws, (A.run x.s ⟨k, op, a, b, c, i, u⟩).1, x.pc, (A.run x.s ⟨k, op, a, b, c, i, u⟩).2, x.ins, x.outs⟩)
            = if (A.run x.s ⟨k, op, a, b, c, i, u⟩).2 = 0 ∨ (A.run x.s ⟨k, op, a, b, c, i, u⟩).2 = 1 then ⟨x.ws, (A.run x.s ⟨k, op, a, b, c, i, u⟩).1, X.beh x, (A.run x.s ⟨k, op, a, b, c, i, u⟩).2, x.ins, x.outs⟩ else ⟨x.ws, x.s, x.pc, (A.run x.s ⟨k, op, a, b, c, i, u⟩).2, x.ins, x.outs⟩ := by
            by_cases t01 : (A.run x.s ⟨k, op, a, b, c, i, u⟩).2 = 0 ∨ (A.run x.s ⟨k, op, a, b, c, i, u⟩).2 = 1
            · rw [if_pos t01, if_pos t01]
            · have hs : (A.run x.s ⟨k, op, a, b, c, i, u⟩).1 = x.s := by
               unfold A.run at t01 ⊢
               split
               · rfl
               · split
                 · rfl
                 · rename_i h1 h2
                   rw [if_neg h1, if_neg h2] at t01
                   exact absurd (Or.inl rfl) t01
              rw [if_neg t01, if_neg t01, hs]
           rw [hx] at p1
           refine ⟨?_, F', p1, p2, p3⟩
           rw [he]
           split <;> rfl
     · have hi : I.is (M.word x.ws x.pc) = false := by simpa using hi
       have e1 : X.nextT x = 2 := by unfold X.nextT; rw [if_pos ht, if_neg (by rw [hi]; simp)]
       have e2 : X.nextX x = x := by unfold X.nextX; rw [if_neg (by rw [hi]; simp)]
       rw [e0, e1, e2]
       exact (rstep_ill h D _ _ _ _ _ _ _ _ _ _ h0 cD L DD ht hi).mono fun e w' hh => ⟨hh.1, F, hh.2.1, hh.2.2, fun k hk => Or.inl hk⟩
   · have e1 : X.nextT x = M.wt x.ws x.pc := by unfold X.nextT; rw [if_neg ht]
     have e2 : X.nextX x = x := by unfold X.nextX; rw [if_neg (fun h => ht h.1)]
     rw [e0, e1, e2]
     exact (rstep_trap h D _ _ _ _ _ _ _ _ _ _ h0 cD L DD ht).mono fun e w' hh => ⟨hh.1, F, hh.2.1, hh.2.2, fun k hk => Or.inl hk⟩
 · have e : X.step x = x := by unfold X.step; rw [if_neg h0]
   rw [e]
   refine (rstep_no h h0).mono ?_
   rintro e w' ⟨he, rfl⟩
   exact ⟨he, F, h, Turn.refl F w, fun k hk => Or.inl hk⟩
def Lo.Duo (w0 : World) (B E : Nat) (x y : X.St) (w : World) : Prop :=
 ∃ F G, Mac F B x w ∧ RMac G E y w ∧ (∀ k, F k → ¬ G k) ∧ (∀ k, F k → w0.heap.size ≤ k) ∧ (∀ k, G k → w0.heap.size ≤ k) ∧ Below w0.heap.size w0 w
theorem Lo.Duo.of {w0 w1 w2 : World} {B E : Nat} {x y : X.St} (h : Live w0 B x w1) (hR : RLive w1 E y w2) : Lo.Duo w0 B E x y w2 := by
 obtain ⟨F, h1, h2, h3⟩ := h
 obtain ⟨G, r1, r2, r3⟩ := hR
 exact ⟨F, G, h1.turn (Lo.t0 r3) (fun _ _ h => h), r1, fun k a b => by have := h1.sub k a; have := r2 k b; omega, h2, fun k a => Nat.le_trans h3.size (r2 k a), h3.trans (r3.mono h3.size)⟩
theorem Lo.Duo.keep {w0 w w' : World} {B E : Nat} {x y : X.St} (h : Lo.Duo w0 B E x y w) (hb : Below w.heap.size w w') : Lo.Duo w0 B E x y w' := by
 obtain ⟨F, G, h1, r1, hd, h2, r2, h3⟩ := h
 exact ⟨F, G, h1.turn (Lo.t0 hb) (fun _ _ h => h), r1.turn (Lo.t0 hb) (fun _ _ h => h), hd, h2, r2, h3.trans (hb.mono h3.size)⟩
theorem Lo.Duo.step {w0 w : World} {B E : Nat} {x y : X.St} (h : Lo.Duo w0 B E x y w) (hn : x.outs.length < 1000000) :
 Calls Tryz.prog 8 #[.pointer (some ⟨B, 0, none⟩)] w fun e w' => e = .returned (.int .i64 (X.step x).st) ∧ Lo.Duo w0 B E (X.step x) y w' := by
 obtain ⟨F, G, h1, r1, hd, h2, r2, h3⟩ := h
 refine (step_any h1 hn).mono ?_
 rintro e w' ⟨he, F', p1, p2, p3⟩
 refine ⟨he, F', G, p1, r1.turn p2 (fun k a b => hd k b a), fun k a b => ?_, fun k a => ?_, r2, h3.trans (p2.below w0.heap.size h3.size h2)⟩
 · rcases p3 k a with q | q
   · exact hd k q b
   · have := r1.sub k b; omega
 · rcases p3 k a with q | q
   · exact h2 k q
   · exact Nat.le_trans h3.size q
theorem Lo.Duo.rstep {w0 w : World} {B E : Nat} {x y : X.St} (h : Lo.Duo w0 B E x y w) (hn : y.outs.length < 1000000) :
 Calls Tryz.prog 9 #[.pointer (some ⟨E, 0, none⟩)] w fun e w' => e = .returned (.int .i64 (X.step y).st) ∧ Lo.Duo w0 B E x (X.step y) w' := by
 obtain ⟨F, G, h1, r1, hd, h2, r2, h3⟩ := h
 refine (rstep_any r1 hn).mono ?_
 rintro e w' ⟨he, G', p1, p2, p3⟩
 refine ⟨he, F, G', h1.turn p2 (fun k a b => hd k a b), p1, fun k a b => ?_, h2, fun k a => ?_, h3.trans (p2.below w0.heap.size h3.size r2)⟩
 · rcases p3 k b with q | q
   · exact hd k a q
   · have := h1.sub k a; omega
 · rcases p3 k a with q | q
   · exact r2 k q
   · exact Nat.le_trans h3.size q
theorem Lo.st_outs {W S : List Int} {b m : Int} {is : List Int} : (Lo.st W S b m is).outs.length = 0 := rfl
end Go.Proofs.YtpfgmfiegnkocaaGreat
namespace Go.Proofs.YtpfgmfiegnkocaaGreat
open Go.ChangeShapes Go.WideShapes Go.RowKit
set_option linter.unusedVariables false
set_option linter.unusedSimpArgs false
set_option maxRecDepth 100000
def SeesB (R : Nat) (w : World) : Sh → List Value → Prop
 | .int k, cs => ∃ a, cs = [.int k a] ∧ (Lit.int k a).wf = true
 | .bool, cs => ∃ b, cs = [.bool b]
 | .str, cs => ∃ s, cs = [.string s] ∧ s.size ≤ R
 | .nil, cs => cs = []
 | .cons f r, cs => ∃ c d, cs = c ++ d ∧ c.length = f.size ∧ SeesB R w f c ∧ SeesB R w r d
 | .rep n e, cs => cs.length = n * e.size ∧ ∀ i, i < n → SeesB R w e ((cs.drop (i * e.size)).take e.size)
 | .sl e, cs => cs = [.slice none 0 0] ∨ ∃ (a : Addr) (len cap : Nat), cs = [.slice (some a) len cap] ∧ len ≤ cap ∧ cap ≤ maxLen ∧ ∀ i, i < len → ∃ es, w.cells? 0 (a.add (i * e.size)) e.size = some es ∧ SeesB R w e es
section
variable {H : Type} {enc : TypeId × Value → H} {P : Program} {w : World} {spare : Nat → Bool} {held : Bool} {R : Nat}
theorem weightsAll_mem {e : TypeId} : ∀ {ds : List (DataW H)} {d : DataW H}, d ∈ ds → ∀ n ∈ d.weights P e, n ∈ DataW.weightsAll P e ds
 | d0 :: ds, d, h, n, hn => by
   simp only [DataW.weightsAll, List.mem_append]
   rcases List.mem_cons.1 h with rfl | h
   · exact Or.inl hn
   · exact Or.inr (weightsAll_mem h n hn)
theorem seesB_fields {m : Nat} {g : TypeId → Option Sh} (ih : ∀ t s, g t = some s → ∀ cs (x : DataW H × List MemPlace), DataW.trod enc P w 0 spare held m t cs = some x → (∀ n ∈ x.1.weights P t, n ≤ R) → SeesB R w s cs) :
 ∀ (fs : List Field) (off : Nat) (s : Sh) (cs : List Value) (ys : List (DataW H × List MemPlace)), shFields P g off fs = some s → (cs.drop off).length = s.size →
  fs.mapM (fun f => DataW.trod enc P w 0 spare held m f.type ((cs.drop f.offset).take (P.cellsOf f.type))) = some ys → (∀ n ∈ DataW.weightsEach P (fs.map (·.type)) (ys.map (·.1)), n ≤ R) → SeesB R w s (cs.drop off)
 | [], off, s, cs, ys, hk, hl, h, hw => by
   simp [shFields] at hk
   subst hk
   exact List.length_eq_zero_iff.1 hl
 | f :: fs, off, s, cs, ys, hk, hl, h, hw => by
   unfold shFields at hk
   split at hk
   · rename_i s0 hg
     split at hk
     · rename_i hc
       simp only [Option.map_eq_some_iff] at hk
       obtain ⟨r, hr, rfl⟩ := hk
       rw [List.mapM_cons] at h
       simp only [bind, Option.bind_eq_some_iff, pure, Option.some.injEq] at h
       obtain ⟨y, hy, ys', hys, rfl⟩ := h
       simp only [List.map_cons, DataW.weightsEach, List.mem_append] at hw
       have h0 := ih _ _ hg _ _ hy (fun n hn => hw n (Or.inl hn))
       rw [hc.1, hc.2] at h0
       have hl2 : (cs.drop off).length = s0.size + r.size := hl
       have hl' : (cs.drop (off + s0.size)).length = r.size := by
        rw [← List.drop_drop, List.length_drop, hl2]; omega
       refine ⟨(cs.drop off).take s0.size, (cs.drop off).drop s0.size, (List.take_append_drop _ _).symm, ?_, h0, ?_⟩
       · rw [List.length_take, hl2]; omega
       · rw [List.drop_drop]
         exact seesB_fields ih fs (off + s0.size) r cs ys' hr hl' hys (fun n hn => hw n (Or.inr hn))
     · cases hk
   · cases hk
theorem seesB_of : ∀ (n : Nat) (t : TypeId) (s : Sh), shapeAt P n t = some s → ∀ (fuel : Nat) (cs : List Value) (x : DataW H × List MemPlace), DataW.trod enc P w 0 spare held fuel t cs = some x → (∀ n ∈ x.1.weights P t, n ≤ R) → SeesB R w s cs
 | 0, t, s, h, _, _, _, _, _ => by simp [shapeAt] at h
 | n + 1, t, s, h, fuel, cs, x, hx, hw => by
   cases fuel with
   | zero => simp [DataW.trod] at hx
   | succ m =>
     unfold shapeAt at h
     split at h
     · rename_i k hu
       simp only [Option.some.injEq] at h; subst h
       obtain ⟨a, rfl, _, wa⟩ := DataW.trod_int hu hx
       exact ⟨a, rfl, wa⟩
     · rename_i hu
       simp only [Option.some.injEq] at h; subst h
       obtain ⟨b, rfl, _⟩ := DataW.trod_bool hu hx
       exact ⟨b, rfl⟩
     · rename_i hu
       simp only [Option.some.injEq] at h; subst h
       rw [DataW.trod_step] at hx
       unfold DataW.trodStep at hx
       rw [hu] at hx
       split at hx <;> simp_all
       obtain ⟨hx1, rfl⟩ := hx
       refine ⟨_, rfl, ?_⟩
       simp only [DataW.weights, List.mem_cons, List.not_mem_nil, or_false, forall_eq] at hw
       rename_i s0 _
       simpa using hw
     · rename_i fs hu
       split at h
       · rename_i s0 hk
         split at h
         · rename_i hc
           simp only [Option.some.injEq] at h; subst h
           rw [DataW.trod_step] at hx
           unfold DataW.trodStep at hx
           simp only [hu] at hx
           split at hx
           · rename_i hlen
             simp only [Option.map_eq_some_iff] at hx
             obtain ⟨ys, hys, rfl⟩ := hx
             have := seesB_fields (fun t s hg cs x hx => seesB_of n t s hg m cs x hx) fs.toList 0 s0 cs ys hk (by rw [List.drop_zero, hlen, hc]) hys (by simpa only [DataW.weights, hu] using hw)
             rw [List.drop_zero] at this
             exact this
           · cases hx
         · cases h
       · cases h
     · rename_i q e hu
       split at h
       · rename_i s0 hk
         split at h
         · rename_i hc
           simp only [Option.some.injEq] at h; subst h
           rw [DataW.trod_step] at hx
           unfold DataW.trodStep at hx
           simp only [hu] at hx
           split at hx
           · rename_i hlen
             simp only [Option.map_eq_some_iff] at hx
             obtain ⟨ys, hys, rfl⟩ := hx
             rw [hc.1] at hys
             refine ⟨by rw [hlen, hc.2], fun i hi => ?_⟩
             have := mapM_some_get hys i i (by simp [hi])
             obtain ⟨y, hy⟩ : ∃ y, ys[i]? = some y := by
              have hl := mapM_some_length hys
              exact ⟨ys[i]'(by rw [hl]; simpa using hi), List.getElem?_eq_getElem _⟩
             rw [hy] at this
             simp only [DataW.weights, hu] at hw
             exact seesB_of n e s0 hk m _ _ this (fun n hn => hw n (weightsAll_mem (List.mem_map.2 ⟨y, List.mem_of_getElem? hy, rfl⟩) n hn))
           · cases hx
         · cases h
       · cases h
     · rename_i e hu
       split at h
       · rename_i s0 hk
         split at h
         · rename_i hc
           simp only [Option.some.injEq] at h; subst h
           rcases DataW.trod_slice hu hx with ⟨h0, _⟩ | ⟨a, len, cap, elems, rest, q, hq, hcs, hd, _, hl, hm, hlen, hel, _⟩
           · exact Or.inl h0
           · refine Or.inr ⟨a, len, cap, hcs, hl, hm, fun i hi => ?_⟩
             have he := hel i hi
             obtain ⟨y, hy⟩ : ∃ y, elems[i]? = some y := ⟨elems[i]'(by omega), List.getElem?_eq_getElem _⟩
             rw [hy, Option.bind_eq_some_iff] at he
             obtain ⟨es, h1, h2⟩ := he
             rw [hc] at h1
             refine ⟨es, h1, seesB_of n e s0 hk q es y h2 (fun n hn => hw n ?_)⟩
             rw [hd]
             simp only [DataW.weights, hu, List.mem_cons, List.mem_append]
             exact Or.inr (Or.inl (weightsAll_mem (List.mem_map.2 ⟨y, List.mem_of_getElem? hy, rfl⟩) n hn))
         · cases h
       · cases h
     · cases h
theorem open_rowB {r : Reach} {b0 n : Nat} {t : TypeId} {fs : Array Field} {s : Sh} {v : Value} {d : DataW H} {p : List MemPlace} (hu : P.underlying t = some (.struct fs)) (hs : shapeAt P n t = some s) (hv : Value.okWide P w r b0 t v) (h : DataW.Trod enc P w 0 spare held t v d p) (hw : ∀ n ∈ d.weights P t, n ≤ R) :
 ∃ cs : Array Value, v = .agg cs ∧ SeesB R w s cs.toList := by
 have hcs : ∃ cs : Array Value, v = .agg cs := by
  simp only [Value.okWide, hu] at hv
  obtain ⟨cs, rfl, _⟩ := hv
  exact ⟨cs, rfl⟩
 obtain ⟨cs, rfl⟩ := hcs
 obtain ⟨fuel, hf⟩ := h
 exact ⟨cs, rfl, by have := seesB_of n t s hs fuel _ _ hf hw; simpa [Value.cells] using this⟩
end
section
variable {w : World} {R : Nat}
theorem seesB_ints {k : IntKind} {A : Option Addr} {n c : Nat} (h : SeesB R w (.sl (.int k)) [.slice A n c]) : Sees w (.sl (.int k)) [.slice A n c] := by
 rcases h with h | ⟨a, len, cap, h, hl, hm, he⟩
 · exact Or.inl h
 · exact Or.inr ⟨a, len, cap, h, hl, hm, he⟩
theorem seesB_nil {e : Sh} {A : Option Addr} {n c : Nat} (h : SeesB R w (.sl e) [.slice A n c]) : A = none → c = 0 := by
 rcases h with h | ⟨a, len, cap, h, _⟩
 · simp only [List.cons.injEq, Value.slice.injEq, and_true] at h
   exact fun _ => h.2.2
 · simp only [List.cons.injEq, Value.slice.injEq, and_true] at h
   exact fun e => by rw [h.1] at e; cases e
theorem seesB_wo {A : Option Addr} {n c : Nat} (h : SeesB R w (.sl (.int .u32)) [.slice A n c]) : ∃ xs, Wo w A n c xs := by
 obtain ⟨h1, h2, xs, i1, i2, i3, i4⟩ := sees_ints (seesB_ints h)
 exact ⟨xs, i1, h1, h2, seesB_nil h, fun x hx => wf_u32 (i2 x hx), i4⟩
theorem seesB_by {A : Option Addr} {n c : Nat} (h : SeesB R w (.sl (.int .u8)) [.slice A n c]) : ∃ xs, By w A n c xs := by
 obtain ⟨h1, h2, xs, i1, i2, i3, i4⟩ := sees_ints (seesB_ints h)
 exact ⟨xs, i1, h1, h2, seesB_nil h, fun x hx => by have := wf_u8 (i2 x hx); omega, i4⟩
theorem seesB_in {A : Option Addr} {n c : Nat} (h : SeesB R w (.sl (.int .i64)) [.slice A n c]) : ∃ xs, In w A n c xs := by
 obtain ⟨h1, h2, xs, i1, i2, i3, i4⟩ := sees_ints (seesB_ints h)
 exact ⟨xs, i1, h1, h2, seesB_nil h, i4⟩
theorem strs_row {a : Addr} : ∀ (len : Nat), (∀ i, i < len → ∃ es, w.cells? 0 (a.add (i * 1)) 1 = some es ∧ SeesB R w .str es) →
 ∃ ss : List ByteArray, ss.length = len ∧ (∀ s ∈ ss, s.size ≤ R) ∧ ∀ j s, ss[j]? = some s → w.cell? (a.add j) = some (.string s)
 | 0, _ => ⟨[], rfl, by simp, by simp⟩
 | len + 1, h => by
   obtain ⟨xs, h1, h2, h3⟩ := strs_row len (fun i hi => h i (by omega))
   obtain ⟨es, he, hs⟩ := h len (by omega)
   obtain ⟨v, rfl, hv⟩ := cells_one he
   obtain ⟨x, hx, hw⟩ := hs
   simp only [List.cons.injEq, and_true] at hx
   subst hx
   rw [Nat.mul_one] at hv
   refine ⟨xs ++ [x], by simp [h1], ?_, ?_⟩
   · intro y hy
     rcases List.mem_append.1 hy with hy | hy
     · exact h2 y hy
     · simp at hy; subst hy; exact hw
   · intro j y hj
     by_cases hlt : j < xs.length
     · rw [List.getElem?_append_left hlt] at hj
       exact h3 j y hj
     · rw [List.getElem?_append_right (by omega)] at hj
       have hj0 : j - xs.length = 0 := by
        rcases Nat.eq_zero_or_pos (j - xs.length) with h0 | h0
        · exact h0
        · rw [List.getElem?_eq_none (by simp; omega)] at hj; cases hj
       rw [hj0] at hj
       simp at hj
       subst hj
       rw [show j = len by omega]
       exact hv
theorem seesB_st {A : Option Addr} {n c : Nat} (hR : R ≤ 140737488351232) (h : SeesB R w (.sl .str) [.slice A n c]) : ∃ ss, St w A n c ss := by
 have hn := seesB_nil h
 rcases h with h | ⟨a, len, cap, h, hl, hm, he⟩
 · simp only [List.cons.injEq, Value.slice.injEq, and_true] at h
   obtain ⟨rfl, rfl, rfl⟩ := h
   exact ⟨[], rfl, Nat.le_refl _, by simp [maxLen], fun _ => rfl, by simp, by simp⟩
 · simp only [List.cons.injEq, Value.slice.injEq, and_true] at h
   obtain ⟨rfl, rfl, rfl⟩ := h
   obtain ⟨ss, h1, h2, h3⟩ := strs_row _ he
   exact ⟨ss, h1, hl, hm, hn, fun s hs => Nat.le_trans (h2 s hs) hR, fun ad e j s hs => by cases e; exact h3 j s hs⟩
def symSh : Sh := .cons .str (.cons (.int .i64) .nil)
theorem syms_row {a : Addr} : ∀ (len : Nat), (∀ i, i < len → ∃ es, w.cells? 0 (a.add (i * 2)) 2 = some es ∧ SeesB R w symSh es) →
 ∃ ys : List Ob.Y, ys.length = len ∧ (∀ y ∈ ys, y.1.size ≤ R) ∧ ∀ j v, (Ob.cells ys)[j]? = some v → w.cell? (a.add j) = some v
 | 0, _ => ⟨[], rfl, by simp, by simp [Ob.cells]⟩
 | len + 1, h => by
   obtain ⟨xs, h1, h2, h3⟩ := syms_row len (fun i hi => h i (by omega))
   obtain ⟨es, he, hs⟩ := h len (by omega)
   obtain ⟨c, d, rfl, _, ⟨s, rfl, hsz⟩, hd⟩ := hs
   obtain ⟨c, d', rfl, _, ⟨x, rfl, _⟩, hd'⟩ := hd
   have hd' : d' = [] := hd'
   subst hd'
   obtain ⟨hl, hc⟩ := cells_at he
   refine ⟨xs ++ [(s, x)], by simp [h1], ?_, ?_⟩
   · intro y hy
     rcases List.mem_append.1 hy with hy | hy
     · exact h2 y hy
     · simp at hy; subst hy; exact hsz
   · intro j v hj
     rw [Ob.cells_append] at hj
     by_cases hlt : j < (Ob.cells xs).length
     · rw [List.getElem?_append_left hlt] at hj
       exact h3 j v hj
     · rw [List.getElem?_append_right (by omega)] at hj
       have hcl := Ob.cells_len xs
       rw [show j = len * 2 + (j - (Ob.cells xs).length) by omega, ← add_add]
       exact hc _ v hj
theorem seesB_sy {A : Option Addr} {n c : Nat} (h : SeesB R w (.sl symSh) [.slice A n c]) : ∃ ys, Sy w A n c ys ∧ ∀ y ∈ ys, y.1.size ≤ R := by
 have hn := seesB_nil h
 rcases h with h | ⟨a, len, cap, h, hl, hm, he⟩
 · simp only [List.cons.injEq, Value.slice.injEq, and_true] at h
   obtain ⟨rfl, rfl, rfl⟩ := h
   exact ⟨[], Sy.empty w, by simp⟩
 · simp only [List.cons.injEq, Value.slice.injEq, and_true] at h
   obtain ⟨rfl, rfl, rfl⟩ := h
   obtain ⟨ys, h1, h2, h3⟩ := syms_row _ he
   exact ⟨ys, ⟨h1, hl, hm, hn, fun ad e j v hv => by cases e; exact h3 j v hv⟩, h2⟩
theorem seesB_slice {e : Sh} {cs : List Value} (h : SeesB R w (.sl e) cs) : ∃ A n c, cs = [.slice A n c] := by
 rcases h with h | ⟨a, len, cap, h, _⟩
 · exact ⟨_, _, _, h⟩
 · exact ⟨_, _, _, h⟩
theorem seesB_three {e f g : Sh} {cs : List Value} (h : SeesB R w (.cons (.sl e) (.cons (.sl f) (.cons (.sl g) .nil))) cs) :
 ∃ A n c B m d C k b, cs = [.slice A n c, .slice B m d, .slice C k b] ∧ SeesB R w (.sl e) [.slice A n c] ∧ SeesB R w (.sl f) [.slice B m d] ∧ SeesB R w (.sl g) [.slice C k b] := by
 obtain ⟨c0, d0, rfl, _, h0, h⟩ := h
 obtain ⟨c1, d1, rfl, _, h1, h⟩ := h
 obtain ⟨c2, d2, rfl, _, h2, h⟩ := h
 have hd : d2 = [] := h
 subst hd
 obtain ⟨A, n, c, rfl⟩ := seesB_slice h0
 obtain ⟨B, m, d, rfl⟩ := seesB_slice h1
 obtain ⟨C, k, b, rfl⟩ := seesB_slice h2
 exact ⟨A, n, c, B, m, d, C, k, b, rfl, h0, h1, h2⟩
def objSh : Sh := .cons (.sl (.int .u32)) (.cons (.sl (.int .i64)) (.cons (.sl symSh) .nil))
def partsSh : Sh := .cons (.sl (.int .u32)) (.cons (.sl (.int .u8)) (.cons (.sl .str) .nil))
end
inductive Ck where
 | int (k : IntKind)
 | bool
def fieldCells (P : Program) (g : TypeId → Option (List Ck)) : Nat → List Field → Option (List Ck)
 | _, [] => some []
 | off, f :: fs =>
   match g f.type with
   | some ks => if f.offset = off ∧ P.cellsOf f.type = ks.length then (fieldCells P g (off + ks.length) fs).map (ks ++ ·) else none
   | none => none
def plainCells (P : Program) : Nat → TypeId → Option (List Ck)
 | 0, _ => none
 | n + 1, t =>
   match P.underlying t with
   | some (.int k) => some [.int k]
   | some .bool => some [.bool]
   | some (.struct fs) => match fieldCells P (plainCells P n) 0 fs.toList with
     | some ks => if P.cellsOf t = ks.length then some ks else none
     | none => none
   | some (.array m e) => match plainCells P n e with
     | some ks => if P.cellsOf e = ks.length ∧ P.cellsOf t = m * ks.length then some (List.replicate m ks).flatten else none
     | none => none
   | _ => none
def Cells : List Ck → List Value → Prop
 | [], cs => cs = []
 | .int k :: ks, cs => ∃ a r, cs = .int k a :: r ∧ (Lit.int k a).wf = true ∧ Cells ks r
 | .bool :: ks, cs => ∃ b r, cs = .bool b :: r ∧ Cells ks r
theorem Cells.len : ∀ {ks : List Ck} {cs : List Value}, Cells ks cs → cs.length = ks.length
 | [], cs, h => by rw [show cs = [] from h]; rfl
 | .int k :: ks, cs, h => by obtain ⟨a, r, rfl, _, hr⟩ := h; simp [Cells.len hr]
 | .bool :: ks, cs, h => by obtain ⟨a, r, rfl, hr⟩ := h; simp [Cells.len hr]
theorem Cells.append : ∀ {ks ks' : List Ck} {cs cs' : List Value}, Cells ks cs → Cells ks' cs' → Cells (ks ++ ks') (cs ++ cs')
 | [], ks', cs, cs', h, h' => by rw [show cs = [] from h]; exact h'
 | .int k :: ks, ks', cs, cs', h, h' => by obtain ⟨a, r, rfl, hw, hr⟩ := h; exact ⟨a, r ++ cs', rfl, hw, Cells.append hr h'⟩
 | .bool :: ks, ks', cs, cs', h, h' => by obtain ⟨a, r, rfl, hr⟩ := h; exact ⟨a, r ++ cs', rfl, Cells.append hr h'⟩
section
variable {H : Type} {enc : TypeId × Value → H} {P : Program} {w : World} {base : Nat} {spare : Nat → Bool} {held : Bool}
theorem trodAll_stays (hl : laidOutB P = true) {W W' : World} {sp : Nat → Bool} : ∀ {ts : List TypeId} {vs : List Value} {ds : List (DataW H)} {ps : List MemPlace},
 DataW.TrodAll enc P W 0 (fun _ => true) true ts vs ds ps → (∀ t ∈ ts, P.readableRec t = true ∧ t < P.types.size) → (∀ p ∈ ps, W.sameAt W' p) → (∀ p ∈ ps, sp p.block = true) →
 DataW.TrodAll enc P W' 0 sp true ts vs ds ps
 | [], vs, ds, ps, h, _, _, _ => by obtain ⟨rfl, rfl, rfl⟩ := trodAll_nil h; exact trodAll_mk0
 | t :: ts, vs, ds, ps, h, ht, hsame, hs => by
   obtain ⟨v, vs', d, ds', p, q, rfl, rfl, rfl, h0, hr⟩ := trodAll_cons h
   have h1 := ht t List.mem_cons_self
   exact trodAll_cons_mk (WideElems.Trod_stays hl h1.1 h1.2 h0 (fun x hx => hsame x (List.mem_append_left _ hx)) (fun x hx => hs x (List.mem_append_left _ hx)))
    (trodAll_stays hl hr (fun t' h' => ht t' (List.mem_cons_of_mem _ h')) (fun x hx => hsame x (List.mem_append_right _ hx)) (fun x hx => hs x (List.mem_append_right _ hx)))
theorem post_law {f : Func} {s : ChangeSpec} {B : TypeId} {apart fresh handsOn : Bool} {W W' : World} {args : Array Value} {ds gs : List (DataW H)} {before : List MemPlace}
 (hl : laidOutB P = true) (hv : s.vars = []) (hB : P.underlying B = some .bool) (hR : f.resultTypes = #[B]) (hread : ∀ t ∈ f.params.toList, P.readableRec t = true ∧ t < P.types.size)
 (hW : DataW.Whole enc P f.params.toList s.vars apart W args.toList ds gs before)
 (hres : (s.fn H (ds ++ gs)).results = [.lit (.bool true)]) (hargs : (s.fn H (ds ++ gs)).args = ds) (hvars : (s.fn H (ds ++ gs)).vars = [])
 (hb : Below W.heap.size W W') :
 s.post enc P f apart fresh handsOn false W args (.bool true) W' := by
 have hlt : ∀ p ∈ before, p.block < W.heap.size := fun p hp => hW.lt p hp
 have hold : ∀ p ∈ before, (fun b => decide (b < W.heap.size)) p.block = true := fun p hp => by simpa using hlt p hp
 have hW0 := hW
 obtain ⟨pa, pv, hA, hV, hps, hz, hn⟩ := hW
 have hV' : gs = [] ∧ pv = [] := by
  rw [hv] at hV
  cases gs <;> simp [DataW.TrodVars] at hV
  exact ⟨rfl, hV⟩
 obtain ⟨rfl, rfl⟩ := hV'
 rw [List.append_nil] at hps
 subst hps
 have hA' : ∀ sp : Nat → Bool, (∀ p ∈ before, sp p.block = true) → DataW.TrodAll enc P W' 0 sp true f.params.toList args.toList (s.fn H (ds ++ [])).args before := fun sp hs => by
  rw [hargs]
  exact trodAll_stays hl hA hread (fun x hx => hb.same (hlt x hx)) hs
 have hres' : ∀ (b : Nat) (sp : Nat → Bool) (hd : Bool), DataW.TrodAll enc P W' b sp hd f.resultTypes.toList ((Value.bool true).resultList f.resultTypes.size) (s.fn H (ds ++ [])).results [] := fun b sp hd => by
  rw [hres, hR]; exact trodAll_cons_mk (p := []) (p' := []) (shut_bool hB _) trodAll_mk0
 have hvars' : ∀ sp : Nat → Bool, DataW.TrodVars enc P W' sp s.vars (s.fn H (ds ++ [])).vars [] := fun sp => by rw [hv, hvars]; rfl
 refine ⟨ds, [], before, [], before, [], hW0, hres' _ _ _, hA' _ hold, hvars' _, World.keptBut_mono (fun p hp => ⟨hp, Or.inr (Or.inl hp)⟩) (hb.frame (· ∈ before)), fun h => by cases h⟩
theorem mapM_rows {m : Nat} {e : TypeId} {ks : List Ck} (ih : ∀ cs (x : DataW H × List MemPlace), DataW.trod enc P w base spare held m e cs = some x → Cells ks cs ∧ x.2 = []) :
 ∀ (k : Nat) (cs : List Value) (ys : List (DataW H × List MemPlace)), cs.length = k * ks.length →
  (List.range k).mapM (fun i => DataW.trod enc P w base spare held m e ((cs.drop (i * ks.length)).take ks.length)) = some ys →
  Cells (List.replicate k ks).flatten cs ∧ ys.flatMap (·.2) = []
 | 0, cs, ys, hl, h => by
   simp at hl h
   subst hl h
   exact ⟨rfl, rfl⟩
 | k + 1, cs, ys, hl, h => by
   rw [List.range_succ_eq_map, List.mapM_cons, List.mapM_map] at h
   simp only [bind, Option.bind_eq_some_iff, pure, Option.some.injEq] at h
   obtain ⟨y, hy, ys', hys, rfl⟩ := h
   have h0 := ih _ _ hy
   have q : (fun i : Nat => DataW.trod enc P w base spare held m e ((cs.drop (i.succ * ks.length)).take ks.length)) = (fun i => DataW.trod enc P w base spare held m e (((cs.drop ks.length).drop (i * ks.length)).take ks.length)) := by
    funext i
    rw [List.drop_drop, Nat.succ_mul, Nat.add_comm]
   have hys' : (List.range k).mapM (fun i => DataW.trod enc P w base spare held m e (((cs.drop ks.length).drop (i * ks.length)).take ks.length)) = some ys' := by
    rw [← q]; exact hys
   have hr := mapM_rows ih k (cs.drop ks.length) ys' (by rw [List.length_drop, hl, Nat.succ_mul]; omega) hys'
   constructor
   · rw [List.replicate_succ, List.flatten_cons]
     have := Cells.append h0.1 hr.1
     simpa using this
   · rw [List.flatMap_cons, h0.2, hr.2]; rfl
theorem mapM_fields {m : Nat} {g : TypeId → Option (List Ck)} (ih : ∀ t ks, g t = some ks → ∀ cs (x : DataW H × List MemPlace), DataW.trod enc P w base spare held m t cs = some x → Cells ks cs ∧ x.2 = []) :
 ∀ (fs : List Field) (off : Nat) (ks : List Ck) (cs : List Value) (ys : List (DataW H × List MemPlace)), fieldCells P g off fs = some ks → (cs.drop off).length = ks.length →
  fs.mapM (fun f => DataW.trod enc P w base spare held m f.type ((cs.drop f.offset).take (P.cellsOf f.type))) = some ys →
  Cells ks (cs.drop off) ∧ ys.flatMap (·.2) = []
 | [], off, ks, cs, ys, hk, hl, h => by
   simp [fieldCells] at hk
   subst hk
   simp at h
   subst h
   exact ⟨List.length_eq_zero_iff.1 hl, rfl⟩
 | f :: fs, off, ks, cs, ys, hk, hl, h => by
   unfold fieldCells at hk
   split at hk
   · rename_i k0 hg
     split at hk
     · rename_i hc
       simp only [Option.map_eq_some_iff] at hk
       obtain ⟨rest, hrest, rfl⟩ := hk
       rw [List.mapM_cons] at h
       simp only [bind, Option.bind_eq_some_iff, pure, Option.some.injEq] at h
       obtain ⟨y, hy, ys', hys, rfl⟩ := h
       have h0 := ih _ _ hg _ _ hy
       rw [hc.1, hc.2] at h0
       have hl' : (cs.drop (off + k0.length)).length = rest.length := by
        rw [← List.drop_drop, List.length_drop, hl, List.length_append]; omega
       have hr := mapM_fields ih fs (off + k0.length) rest cs ys' hrest hl' hys
       constructor
       · have := Cells.append h0.1 hr.1
         rw [← List.drop_drop, List.take_append_drop] at this
         exact this
       · rw [List.flatMap_cons, h0.2, hr.2]; rfl
     · cases hk
   · cases hk
theorem plain_cells : ∀ (n : Nat) (t : TypeId) (ks : List Ck), plainCells P n t = some ks → ∀ (fuel : Nat) (cs : List Value) (x : DataW H × List MemPlace), DataW.trod enc P w base spare held fuel t cs = some x → Cells ks cs ∧ x.2 = []
 | 0, t, ks, h, _, _, _, _ => by simp [plainCells] at h
 | n + 1, t, ks, h, fuel, cs, x, hx => by
   unfold plainCells at h
   split at h
   · rename_i k hu
     simp only [Option.some.injEq] at h; subst h
     obtain ⟨a, rfl, rfl, wa⟩ := DataW.trod_int hu hx
     exact ⟨⟨a, [], rfl, wa, rfl⟩, rfl⟩
   · rename_i hu
     simp only [Option.some.injEq] at h; subst h
     obtain ⟨b, rfl, rfl⟩ := DataW.trod_bool hu hx
     exact ⟨⟨b, [], rfl, rfl⟩, rfl⟩
   · rename_i fs hu
     split at h
     · rename_i k0 hk
       split at h
       · rename_i hc
         simp only [Option.some.injEq] at h; subst h
         cases fuel with
         | zero => simp [DataW.trod] at hx
         | succ m =>
           rw [DataW.trod_step] at hx
           unfold DataW.trodStep at hx
           simp only [hu] at hx
           split at hx
           · rename_i hlen
             simp only [Option.map_eq_some_iff] at hx
             obtain ⟨ys, hys, rfl⟩ := hx
             have := mapM_fields (fun t ks hg cs x hx => plain_cells n t ks hg m cs x hx) fs.toList 0 k0 cs ys hk (by rw [List.drop_zero, hlen, hc]) hys
             rw [List.drop_zero] at this
             exact this
           · cases hx
       · cases h
     · cases h
   · rename_i m e hu
     split at h
     · rename_i k0 hk
       split at h
       · rename_i hc
         simp only [Option.some.injEq] at h; subst h
         cases fuel with
         | zero => simp [DataW.trod] at hx
         | succ q =>
           rw [DataW.trod_step] at hx
           unfold DataW.trodStep at hx
           simp only [hu] at hx
           split at hx
           · rename_i hlen
             simp only [Option.map_eq_some_iff] at hx
             obtain ⟨ys, hys, rfl⟩ := hx
             rw [hc.1] at hys
             exact mapM_rows (fun cs x hx => plain_cells n e k0 hk q cs x hx) m cs ys (by rw [hlen, hc.2]) hys
           · cases hx
       · cases h
     · cases h
   · cases h
theorem open_plain {r : Reach} {b0 : Nat} {t : TypeId} {n : Nat} {ks : List Ck} {v : Value} {d : DataW H} {p : List MemPlace} (hp : plainCells P n t = some ks) (hk : (∃ fs, P.underlying t = some (.struct fs)) ∨ ∃ m e, P.underlying t = some (.array m e))
 (hv : Value.okWide P w r b0 t v) (h : DataW.Trod enc P w base spare held t v d p) :
 ∃ cs : Array Value, v = .agg cs ∧ Cells ks cs.toList ∧ p = [] := by
 have hcs : ∃ cs : Array Value, v = .agg cs := by
  rcases hk with ⟨fs, hu⟩ | ⟨m, e, hu⟩
  · simp only [Value.okWide, hu] at hv
    obtain ⟨cs, rfl, _⟩ := hv
    exact ⟨cs, rfl⟩
  · simp only [Value.okWide, hu] at hv
    obtain ⟨cs, rfl, _⟩ := hv
    exact ⟨cs, rfl⟩
 obtain ⟨cs, rfl⟩ := hcs
 obtain ⟨fuel, hf⟩ := h
 have := plain_cells n t ks hp fuel _ _ hf
 exact ⟨cs, rfl, by simpa [Value.cells] using this.1, this.2⟩
end
def A.of (l : List Int) (h : Int) (n z c v : Bool) : A.Regs := ⟨fun j => l.getD j 0, h, n, z, c, v⟩
theorem A.word {a : Int} (w : (Lit.int .u32 a).wf = true) : 0 ≤ a ∧ a < 4294967296 := by have := bounds_u32 w; omega
def regsSh : Sh := .cons (.rep 16 (.int .u32)) (.cons (.int .u32) (.cons .bool (.cons .bool (.cons .bool (.cons .bool .nil)))))
def setSh : Sh := .cons regsSh (.cons (.int .u32) (.cons (.sl (.int .u32)) .nil))
theorem sees_rep {w : World} {cs : List Value} (h : Sees w (.rep 16 (.int .u32)) cs) : ∃ l : List Int, l.length = 16 ∧ cs = l.map (Value.int .u32) ∧ ∀ x ∈ l, 0 ≤ x ∧ x < 4294967296 := by
 obtain ⟨hl, h⟩ := h
 have hl : cs.length = 16 := hl
 have h1 : ∀ i : Nat, ∃ a : Int, i < 16 → cs[i]? = some (.int .u32 a) ∧ 0 ≤ a ∧ a < 4294967296 := by
  intro i
  by_cases hi : i < 16
  · obtain ⟨a, ha, hw⟩ := h i hi
    have ha : (cs.drop (i * 1)).take 1 = [.int .u32 a] := ha
    rw [Nat.mul_one] at ha
    refine ⟨a, fun _ => ⟨?_, A.word hw⟩⟩
    have : ((cs.drop i).take 1)[0]? = some (.int .u32 a) := by rw [ha]; rfl
    rw [List.getElem?_take, if_pos (by omega), List.getElem?_drop, Nat.add_zero] at this
    exact this
  · exact ⟨0, fun h => absurd h hi⟩
 refine ⟨(List.range 16).map fun i => Classical.choose (h1 i), by simp, ?_, ?_⟩
 · apply List.ext_getElem?
   intro i
   by_cases hi : i < 16
   · rw [(Classical.choose_spec (h1 i) hi).1, List.getElem?_map, List.getElem?_map, List.getElem?_range hi]; rfl
   · rw [List.getElem?_eq_none (by omega), List.getElem?_eq_none (by simp; omega)]
 · intro x hx
   obtain ⟨i, hi, rfl⟩ := List.mem_map.1 hx
   exact (Classical.choose_spec (h1 i) (by simpa using hi)).2
theorem list16 (l : List Int) (h : l.length = 16) : l.map (Value.int .u32) = [.int .u32 (l.getD 0 0), .int .u32 (l.getD 1 0), .int .u32 (l.getD 2 0), .int .u32 (l.getD 3 0), .int .u32 (l.getD 4 0), .int .u32 (l.getD 5 0), .int .u32 (l.getD 6 0), .int .u32 (l.getD 7 0), .int .u32 (l.getD 8 0), .int .u32 (l.getD 9 0), .int .u32 (l.getD 10 0), .int .u32 (l.getD 11 0), .int .u32 (l.getD 12 0), .int .u32 (l.getD 13 0), .int .u32 (l.getD 14 0), .int .u32 (l.getD 15 0)] := by
 apply List.ext_getElem?
 intro i
 by_cases hi : i < 16
 · rw [List.getElem?_map, List.getElem?_eq_getElem (by omega)]
   have hd : ∀ j, (hj : j < 16) → l.getD j 0 = l[j]'(by omega) := fun j hj => by simp [List.getD_eq_getElem?_getD, List.getElem?_eq_getElem (show j < l.length by omega)]
   rw [hd 0 (by omega), hd 1 (by omega), hd 2 (by omega), hd 3 (by omega), hd 4 (by omega), hd 5 (by omega), hd 6 (by omega), hd 7 (by omega), hd 8 (by omega), hd 9 (by omega), hd 10 (by omega), hd 11 (by omega), hd 12 (by omega), hd 13 (by omega), hd 14 (by omega), hd 15 (by omega)]
   rcases (show i = 0 ∨ i = 1 ∨ i = 2 ∨ i = 3 ∨ i = 4 ∨ i = 5 ∨ i = 6 ∨ i = 7 ∨ i = 8 ∨ i = 9 ∨ i = 10 ∨ i = 11 ∨ i = 12 ∨ i = 13 ∨ i = 14 ∨ i = 15 by omega) with rfl | rfl | rfl | rfl | rfl | rfl | rfl | rfl | rfl | rfl | rfl | rfl | rfl | rfl | rfl | rfl <;> rfl
 · rw [List.getElem?_eq_none (by simp; omega), List.getElem?_eq_none (by simp; omega)]
theorem sees_set {w : World} {cs : List Value} (h : Sees w setSh cs) : ∃ (s : A.Regs) (pc : Int) (A' : Option Addr) (n c : Nat), A.Ok s ∧ (0 ≤ pc ∧ pc < 4294967296) ∧ (∃ is, Ws w A' n c is) ∧ cs = [.int .u32 (s.r 0), .int .u32 (s.r 1), .int .u32 (s.r 2), .int .u32 (s.r 3), .int .u32 (s.r 4), .int .u32 (s.r 5), .int .u32 (s.r 6), .int .u32 (s.r 7), .int .u32 (s.r 8), .int .u32 (s.r 9), .int .u32 (s.r 10), .int .u32 (s.r 11), .int .u32 (s.r 12), .int .u32 (s.r 13), .int .u32 (s.r 14), .int .u32 (s.r 15), .int .u32 s.h, .bool s.n, .bool s.z, .bool s.c, .bool s.v, .int .u32 pc, .slice A' n c] := by
 obtain ⟨c0, d0, rfl, _, h0, h⟩ := h
 obtain ⟨c1, d1, rfl, _, ⟨pc, rfl, hp⟩, h⟩ := h
 obtain ⟨c2, d2, rfl, _, h2, h⟩ := h
 have hd : d2 = [] := h
 subst hd
 obtain ⟨e0, f0, rfl, _, hR, h0⟩ := h0
 obtain ⟨e1, f1, rfl, _, ⟨hh, rfl, hw⟩, h0⟩ := h0
 obtain ⟨e2, f2, rfl, _, ⟨n, rfl⟩, h0⟩ := h0
 obtain ⟨e3, f3, rfl, _, ⟨z, rfl⟩, h0⟩ := h0
 obtain ⟨e4, f4, rfl, _, ⟨c, rfl⟩, h0⟩ := h0
 obtain ⟨e5, f5, rfl, _, ⟨v, rfl⟩, h0⟩ := h0
 have hf : f5 = [] := h0
 subst hf
 obtain ⟨l, hl, rfl, hr⟩ := sees_rep hR
 have hs : ∃ A n c, c2 = [.slice A n c] := by
  rcases h2 with rfl | ⟨ad, len, cap, rfl, _⟩
  · exact ⟨_, _, _, rfl⟩
  · exact ⟨_, _, _, rfl⟩
 obtain ⟨A', m, q, rfl⟩ := hs
 refine ⟨A.of l hh n z c v, pc, A', m, q, ⟨fun j hj => ?_, A.word hw⟩, A.word hp, sees_ws h2, ?_⟩
 · show 0 ≤ l.getD j 0 ∧ l.getD j 0 < 4294967296
   rw [List.getD_eq_getElem?_getD, List.getElem?_eq_getElem (show j < l.length by omega)]
   exact hr _ (List.getElem_mem _)
 · rw [list16 l hl]; rfl
section
variable {H : Type} {enc : TypeId × Value → H} {P : Program} {w : World} {spare : Nat → Bool} {held : Bool}
theorem open_row {r : Reach} {b0 n : Nat} {t : TypeId} {fs : Array Field} {s : Sh} {v : Value} {d : DataW H} {p : List MemPlace} (hu : P.underlying t = some (.struct fs)) (hs : shapeAt P n t = some s) (hv : Value.okWide P w r b0 t v) (h : DataW.Trod enc P w 0 spare held t v d p) :
 ∃ cs : Array Value, v = .agg cs ∧ Sees w s cs.toList := by
 have hcs : ∃ cs : Array Value, v = .agg cs := by
  simp only [Value.okWide, hu] at hv
  obtain ⟨cs, rfl, _⟩ := hv
  exact ⟨cs, rfl⟩
 obtain ⟨cs, rfl⟩ := hcs
 exact ⟨cs, rfl, by have := open_sees hs h; simpa [Value.cells] using this⟩
end
def whereSh : Sh := .cons (.int .i64) (.cons (.int .i64) (.cons (.sl (.int .u32)) .nil))
theorem sees_where {w : World} {cs : List Value} (h : Sees w whereSh cs) : ∃ (b m : Int) (A' : Option Addr) (n c : Nat), (∃ is, Ws w A' n c is) ∧ cs = [.int .i64 b, .int .i64 m, .slice A' n c] := by
 obtain ⟨c0, d0, rfl, _, ⟨b, rfl, _⟩, h⟩ := h
 obtain ⟨c1, d1, rfl, _, ⟨m, rfl, _⟩, h⟩ := h
 obtain ⟨c2, d2, rfl, _, h2, h⟩ := h
 have hd : d2 = [] := h
 subst hd
 have hs : ∃ A n c, c2 = [.slice A n c] := by
  rcases h2 with rfl | ⟨ad, len, cap, rfl, _⟩
  · exact ⟨_, _, _, rfl⟩
  · exact ⟨_, _, _, rfl⟩
 obtain ⟨A', n, c, rfl⟩ := hs
 exact ⟨b, m, A', n, c, sees_ws h2, rfl⟩
end Go.Proofs.YtpfgmfiegnkocaaGreat
