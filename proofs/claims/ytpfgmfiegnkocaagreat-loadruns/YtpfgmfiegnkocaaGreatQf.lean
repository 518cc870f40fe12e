import Derived.Test.YtpfgmfiegnkocaaGreatQe
namespace Go.Proofs.YtpfgmfiegnkocaaGreat
open Go.RowKit
set_option linter.unusedVariables false
set_option linter.unusedSimpArgs false
set_option maxRecDepth 100000
theorem RMacAt.reg {F : Nat → Prop} {E : Nat} {x : X.St} {D C : Nat} {ai : Option Addr} {ni ci : Nat} {ao : Option Addr} {no co : Nat} {w : World} (h : RMacAt F E x D C ai ni ci ao no co w) (j : Nat) (hj : j < 16) : w.cell? ⟨E, 1 + j, none⟩ = some (.int .u32 (x.s.r j)) :=
 h.box.cell _ _ (X.rc_r _ _ _ _ _ _ j hj)
theorem RMacAt.eaten {F : Nat → Prop} {E : Nat} {x : X.St} {D C : Nat} {b off n ci : Nat} {ao : Option Addr} {no co : Nat} {w : World} {y : Int} {ys : List Int} (h : RMacAt F E x D C (some ⟨b, off, none⟩) (n + 1) ci ao no co w) (hx : x.ins = y :: ys) (A' : Option Addr)
 (hA : A' = some ⟨b, off + 1, none⟩ ∨ n = 0 ∧ A' = some ⟨b, off, none⟩) : RMacAt F E ⟨x.ws, x.s, x.pc, x.st, ys, x.outs⟩ D C A' n (ci - 1) ao no co (w.setCell ⟨E, 24, none⟩ (.slice A' n (ci - 1))) := by
 have hB : But E w (w.setCell ⟨E, 24, none⟩ (.slice A' n (ci - 1))) := (But.refl E w).setCell _ _
 have hw := h.ins
 rw [hx] at hw
 have hi := h.insF _ rfl (by omega)
 have hAb : ∀ ad, A' = some ad → ad.block = b := by
  intro ad e
  rcases hA with hA | hA
  · rw [hA] at e; cases e; rfl
  · rw [hA.2] at e; cases e; rfl
 have hW : Ws w A' n (ci - 1) ys := hw.drop1 A' (by
  rcases hA with hA | hA
  · exact Or.inl hA
  · exact Or.inr ⟨hA.1, fun e => by rw [hA.2] at e; cases e⟩)
 have hb := h.box.set 24 (.slice A' n (ci - 1))
 rw [X.rc_in] at hb
 exact ⟨fun k hk => Nat.lt_of_lt_of_le (h.sub k hk) hB.size, h.inE, h.inD, h.inC, h.neD, h.neC, hb, h.mem.but hB (Ne.symm h.neD) (Ne.symm h.neC), hW.but hB fun ad e _ => by rw [hAb ad e]; exact hi.2.1, fun ad e _ => by rw [hAb ad e]; exact hi,
  h.out.to fun ad e => hB.block _ (h.sub _ (h.outF ad e).1) (h.outF ad e).2.1, h.outF, h.ok, h.pc0, h.pc1, h.rng⟩
theorem RMacAt.outed {F : Nat → Prop} {E : Nat} {x : X.St} {D C : Nat} {ai : Option Addr} {ni ci : Nat} {ao : Option Addr} {no co : Nat} {w w1 w3 : World} {A' : Option Addr} {n' c' : Nat} {v : Int} (h : RMacAt F E x D C ai ni ci ao no co w) (hK : Kept w w1)
 (hG : w1.grownBy w3 (Value.ownBlock (.slice ao no co))) (hO : X.Outs A' n' c' (x.outs ++ [v]) w3) (hA : ∀ bd, A' = some bd → ao = some bd ∨ w1.heap.size ≤ bd.block) (v0 : 0 ≤ v) (v1 : v < 4294967296) :
 Has E (X.rc D x.s x.pc x.st (.slice ai ni ci) (.slice ao no co)) 50 w3 ∧ ∃ F' : Nat → Prop, RMacAt F' E ⟨x.ws, x.s, x.pc, x.st, x.ins, x.outs ++ [v]⟩ D C ai ni ci A' n' c' (w3.setCell ⟨E, 25, none⟩ (.slice A' n' c')) ∧
  Turn F w (w3.setCell ⟨E, 25, none⟩ (.slice A' n' c')) ∧ ∀ k, F' k → F k ∨ w.heap.size ≤ k := by
 have hrow : ∀ k, Value.ownBlock (.slice ao no co) = some k → F k ∧ (k ≠ E ∧ k ≠ D ∧ k ≠ C) ∧ ∀ ad, ai = some ad → 0 < ni → ad.block ≠ k := by
  intro k hk
  cases ao with
  | none => cases hk
  | some bd =>
    cases hk
    exact ⟨(h.outF bd rfl).1, (h.outF bd rfl).2, fun ad e hn => (h.insF ad e hn).2.2.2 bd rfl⟩
 have hT1 : Turn F w w1 := hK.turn F
 have hT3 : Turn F w1 w3 := grown_turn hG fun k hk => (hrow k hk).1
 have hEl : E < w.heap.size := h.sub E h.inE
 have hDl : D < w.heap.size := h.sub D h.inD
 have hCl : C < w.heap.size := h.sub C h.inC
 have hsz := hK.size
 have hbE : w3.heap[E]? = w.heap[E]? := (hG.block E (by omega) (fun e => (hrow E e.symm).2.1.1 rfl)).trans (hK.below.block E hEl)
 have hbD : w3.heap[D]? = w.heap[D]? := (hG.block D (by omega) (fun e => (hrow D e.symm).2.1.2.1 rfl)).trans (hK.below.block D hDl)
 have hbC : w3.heap[C]? = w.heap[C]? := (hG.block C (by omega) (fun e => (hrow C e.symm).2.1.2.2 rfl)).trans (hK.below.block C hCl)
 have hm : Has E (X.rc D x.s x.pc x.st (.slice ai ni ci) (.slice ao no co)) 50 w3 := hbE.trans h.box
 have hB4 : But E w3 (w3.setCell ⟨E, 25, none⟩ (.slice A' n' c')) := (But.refl E w3).setCell _ _
 have hs3 : w.heap.size ≤ w3.heap.size := Nat.le_trans hT1.size hT3.size
 have hlt : ∀ ad, A' = some ad → ad.block < w3.heap.size := by
  intro ad e
  subst e
  exact (World.ownsRow.lt hO ad.block rfl).2
 have hA' : ∀ ad, A' = some ad → (F ad.block ∨ w.heap.size ≤ ad.block) ∧ ad.block ≠ E ∧ ad.block ≠ D ∧ ad.block ≠ C := by
  intro ad e
  rcases hA ad e with h1 | h1
  · exact ⟨Or.inl (h.outF ad h1).1, (h.outF ad h1).2⟩
  · exact ⟨Or.inr (Nat.le_trans hT1.size h1), by omega, by omega, by omega⟩
 have hb := hm.set 25 (.slice A' n' c')
 rw [X.rc_out] at hb
 refine ⟨hm, fun k => F k ∨ (w.heap.size ≤ k ∧ k < w3.heap.size), ⟨?_, Or.inl h.inE, Or.inl h.inD, Or.inl h.inC, h.neD, h.neC, hb, ?_, ?_, ?_, ?_, ?_, h.ok, h.pc0, h.pc1, ?_⟩, (hT1.trans hT3).trans (hB4.turn h.inE), ?_⟩
 · intro k hk
   refine Nat.lt_of_lt_of_le ?_ hB4.size
   rcases hk with hk | hk
   · exact Nat.lt_of_lt_of_le (h.sub k hk) hs3
   · exact hk.2
 · exact (h.mem.to hbD hbC).but hB4 (Ne.symm h.neD) (Ne.symm h.neC)
 · refine (h.ins.to (w' := w3) fun ad e hn => ?_).but hB4 fun ad e hn => (h.insF ad e hn).2.1
   have hl := h.sub _ (h.insF ad e hn).1
   exact (hG.block _ (by omega) (fun e' => (hrow _ e'.symm).2.2 ad e hn rfl)).trans (hK.below.block _ hl)
 · intro ad e hn
   have := h.insF ad e hn
   refine ⟨Or.inl this.1, this.2.1, this.2.2.1, fun bd e' => ?_⟩
   rcases hA bd e' with h1 | h1
   · exact this.2.2.2 bd h1
   · have := h.sub _ this.1
     omega
 · exact hO.to fun ad e => hB4.block _ (hlt ad e) (hA' ad e).2.1
 · intro ad e
   refine ⟨?_, (hA' ad e).2⟩
   rcases (hA' ad e).1 with h1 | h1
   · exact Or.inl h1
   · exact Or.inr ⟨h1, hlt ad e⟩
 · intro y hy
   rcases List.mem_append.1 hy with hy | hy
   · exact h.rng y hy
   · simp at hy; omega
 · intro k hk
   rcases hk with hk | hk
   · exact Or.inl hk
   · exact Or.inr hk.1
set_option maxHeartbeats 2000000 in
theorem rmove_0w {F : Nat → Prop} {E : Nat} {x : X.St} {D C : Nat} {ai : Option Addr} {ni ci : Nat} {ao : Option Addr} {no co : Nat} {w : World} (h : RMacAt F E x D C ai ni ci ao no co w) (a b c i y v : Int) (u : Bool) (a0 : 0 ≤ a) (a1 : a < 16) (b0 : 0 ≤ b) (b1 : b < 16)
 (y0 : 0 ≤ y) (y1 : y < 4294967296) (hy : (x.s.r b.toNat + i % 4294967296) % 4294967296 = y) (v0 : 0 ≤ v) (v1 : v < 4294967296) (hp : ¬ y = 4294967232)
 (L : ∀ w, RMacAt F E x D C ai ni ci ao no co w → Calls Tryz.prog 29 #[.pointer (some ⟨D, 0, none⟩), .int .u32 y] w fun e w' => e = .returned (.tuple #[.int .u32 v, .int .i64 0]) ∧ Kept w w') :
 Calls Tryz.prog 31 #[.pointer (some ⟨E, 0, none⟩), .agg #[.int .i64 5, .int .i64 0, .int .i64 a, .int .i64 b, .int .i64 c, .int .i64 i, .bool u]] w fun e w' => e = .returned (.int .i64 0) ∧ But E w w' ∧ ∃ ai' ni' ci', RMacAt F E ⟨x.ws, A.show' (A.set x.s a.toNat v) v, x.pc, x.st, x.ins, x.outs⟩ D C ai' ni' ci' ao no co w' := by
 have rb := h.ok.1 b.toNat (by omega)
 have ra := h.ok.1 a.toNat (by omega)
 go_enter Tryz.func31, Tryz.ntmps31
 go_upto_region 1 with (fail)
 generalize hw1 : w.alloc (Obj.cells _ _) = w1
 have hI : Has w.heap.size #[.int .i64 5, .int .i64 0, .int .i64 a, .int .i64 b, .int .i64 c, .int .i64 i, .bool u] 76 w1 := by rw [← hw1]; exact Has.new _ _ _
 have hK : Kept w w1 := by rw [← hw1]; exact (Kept.refl w).alloc _ _
 clear hw1
 have hM := h.kept hK
 have hEg : E < w.heap.size := h.sub E h.inE
 have hFg : ∀ k, F k → k < w.heap.size := h.sub
 have hFE : F E := h.inE
 have hFC : F C := h.inC
 clear h
 generalize hg : w.heap.size = g at *
 have cr := hM.reg b.toNat (by omega)
 have ca := hM.reg a.toNat (by omega)
 have c2 : w1.cell? ⟨g, 2, none⟩ = some (.int .i64 a) := hI.cell 2 _ rfl
 have c3 : w1.cell? ⟨g, 3, none⟩ = some (.int .i64 b) := hI.cell 3 _ rfl
 have c5 : w1.cell? ⟨g, 5, none⟩ = some (.int .i64 i) := hI.cell 5 _ rfl
 replace hI := Lib.hid hI
 replace hK := Lib.hid hK
 replace hM := Lib.hid hM
 refine WS.start 12 (by kernel_rfl) (by kernel_rfl) ?_
 intro w2 hw2
 have q1 : w2.cell? ⟨E, 1 + b.toNat, none⟩ = some (.int .u32 (x.s.r b.toNat)) := by rw [hw2]; exact cr
 have q2 : w2.cell? ⟨E, 1 + a.toNat, none⟩ = some (.int .u32 (x.s.r a.toNat)) := by rw [hw2]; exact ca
 have q3 : w2.cell? ⟨g, 2, none⟩ = some (.int .i64 a) := by rw [hw2]; exact c2
 have q4 : w2.cell? ⟨g, 3, none⟩ = some (.int .i64 b) := by rw [hw2]; exact c3
 have q5 : w2.cell? ⟨g, 5, none⟩ = some (.int .i64 i) := by rw [hw2]; exact c5
 have hI2 := Lib.hid (show Has g #[.int .i64 5, .int .i64 0, .int .i64 a, .int .i64 b, .int .i64 c, .int .i64 i, .bool u] 76 w2 by rw [hw2]; exact hI.out)
 have hK2 := Lib.hid (show Kept w w2 by rw [hw2]; exact hK.out.drew)
 have hM2 := Lib.hid (show RMacAt F E x D C ai ni ci ao no co w2 by rw [hw2]; exact hM.out.kept (Kept.refl w1).drew)
 clear hw2 cr ca c2 c3 c5 hI hK hM
 generalize x.s.r b.toNat = vb at *
 generalize x.s.r a.toNat = va at *
 have hyw : IntKind.u32.wrap (vb + IntKind.u32.wrap i) = y := by rw [IntKind.wrap_u32, IntKind.wrap_u32]; exact hy
 simp only [List.take_succ_cons, List.take_zero, List.drop_succ_cons, List.drop_zero]
 iterate 12 (refine WS.step rfl (fun K hK => ?_); go_simp; refine hK _ ?_; clear hK K)
 refine WS.nil ?_
 try simp only [hyw]
 go_upto_region 2 with (fail)
 refine WS.start 8 (by kernel_rfl) (by kernel_rfl) ?_
 intro w3 hw3
 have r2 : w3.cell? ⟨E, 1 + a.toNat, none⟩ = some (.int .u32 va) := by rw [hw3]; exact q2
 have r3 : w3.cell? ⟨g, 2, none⟩ = some (.int .i64 a) := by rw [hw3]; exact q3
 have hI3 := Lib.hid (show Has g #[.int .i64 5, .int .i64 0, .int .i64 a, .int .i64 b, .int .i64 c, .int .i64 i, .bool u] 76 w3 by rw [hw3]; exact hI2.out)
 have hK3 := Lib.hid (show Kept w w3 by rw [hw3]; exact hK2.out.drew)
 have hM3 := Lib.hid (show RMacAt F E x D C ai ni ci ao no co w3 by rw [hw3]; exact hM2.out.kept (Kept.refl w2).drew)
 have r1 : w3.cell? ⟨g, 1, none⟩ = some (.int .i64 0) := hI3.out.cell 1 _ rfl
 clear hw3 q1 q2 q3 q4 q5 hI2 hK2 hM2
 simp only [List.take_succ_cons, List.take_zero, List.drop_succ_cons, List.drop_zero]
 iterate 8 (refine WS.step rfl (fun K hK => ?_); go_simp; refine hK _ ?_; clear hK K)
 refine WS.nil ?_
 have cM : w3.cell? ⟨E, 0, none⟩ = some (.pointer (some ⟨D, 0, none⟩)) := hM3.out.box.cell 0 _ rfl
 have hp' : (y == 4294967232) = false := by simpa using hp
 go_wp2_with (fail)
 refine (L _ hM3.out).mono ?_; rintro e w4 ⟨rfl, hK4⟩
 have hM4 := Lib.hid (hM3.out.kept hK4)
 have hK4' := Lib.hid ((hK3.out.trans hK4).but E)
 have hI4 := Lib.hid (hI3.out.kept hK4)
 clear hM3 hK3 hI3 hK4 L r1 r2 r3 cM
 go_upto_region 13 with (fail)
 have t1 : w4.cell? ⟨g, 2, none⟩ = some (.int .i64 a) := hI4.out.cell 2 _ rfl
 have t2 := hM4.out.reg a.toNat (by omega)
 have t3 := hM4.out.box.free (1 + a.toNat)
 refine WS.start 8 (by kernel_rfl) (by kernel_rfl) ?_
 intro wy hwy
 have u1 : wy.cell? ⟨g, 2, none⟩ = some (.int .i64 a) := by rw [hwy]; exact t1
 have u2 : ∃ z, wy.cell? ⟨E, 1 + a.toNat, none⟩ = some (.int .u32 z) := ⟨_, by rw [hwy]; exact t2⟩
 have u3 : wy.frozen? ⟨E, 1 + a.toNat, none⟩ = false := by rw [hwy]; exact t3
 have hMy := hM4.out.kept (Kept.refl w4).drew
 rw [show w4.drew = wy from hwy.symm] at hMy
 have hKy := hK4'.out.drew
 rw [show w4.drew = wy from hwy.symm] at hKy
 obtain ⟨z, u2⟩ := u2
 clear hwy t1 t2 t3 hM4 hK4' hI4
 replace hMy := Lib.hid hMy
 replace hKy := Lib.hid hKy
 simp only [List.take_succ_cons, List.take_zero, List.drop_succ_cons, List.drop_zero]
 iterate 8 (refine WS.step rfl (fun K hK => ?_); go_simp; refine hK _ ?_; clear hK K)
 refine WS.nil ?_
 have hb := hMy.out.box.set (1 + a.toNat) (.int .u32 v)
 rw [X.rc_set _ _ _ _ _ _ a.toNat (by omega)] at hb
 have hB := (But.refl E wy).setCell (1 + a.toNat) (.int .u32 v)
 replace hb := Lib.hid hb
 replace hB := Lib.hid hB
 go_upto_region 14 with (fail)
 generalize wy.setCell _ _ = wx at *
 clear u1 u2 u3
 go_wp2_with (with_reducible refine wpList_load_mid (op := ⟨some 80, _, _, _, _, _⟩) rfl 48 _ rfl _ _ rfl (A.cells (A.set x.s a.toNat v)).toList _ (X.rc_range hb.out) Tryz.underlying48 rfl (by rw [Array.length_toList]; exact A.info25 _) ?_)
 refine (rshow_any _ v v0 v1 _).mono ?_; rintro e wv ⟨rfl, hKv⟩
 have hbv := hb.out.kept hKv
 have hth := hbv.there 1 21 (by rw [X.rc_size]; omega)
 have hb3 := Has.setN (A.cells (A.show' (A.set x.s a.toNat v) v)).toList 1 _ wv hbv
 rw [X.rc_regs] at hb3
 have hB3 : But E wv (wv.setCells E 1 (A.cells (A.show' (A.set x.s a.toNat v) v)).toList) := but_setCells _ _ _ _ (But.refl E wv)
 have hBB := (hB.out.trans (hKv.but E)).trans hB3
 have hMf := Lib.hid (hMy.out.own hBB _ _ _ hb3 (A.ok_show _ _ (A.ok_set _ _ _ hMy.out.ok v0 v1)) hMy.out.pc0 hMy.out.pc1)
 have hBf := Lib.hid (hKy.out.trans hBB)
 clear hb3 hB3 hBB hb hB hbv hKv hMy hKy
 go_wp2_with (with_reducible refine wpList_store_mid rfl 48 _ _ rfl _ _ (A.cells (A.show' (A.set x.s a.toNat v) v)) rfl rfl hth (A.info25 _) (A.one_cells _) ?_; generalize World.setCells _ _ _ _ = wu at *)
 go_ret
 exact ⟨rfl, hBf.out, _, _, _, hMf.out⟩
set_option maxHeartbeats 2000000 in
theorem rmove_0t {F : Nat → Prop} {E : Nat} {x : X.St} {D C : Nat} {ai : Option Addr} {ni ci : Nat} {ao : Option Addr} {no co : Nat} {w : World} (h : RMacAt F E x D C ai ni ci ao no co w) (a b c i y v t : Int) (u : Bool) (a0 : 0 ≤ a) (a1 : a < 16) (b0 : 0 ≤ b) (b1 : b < 16)
 (y0 : 0 ≤ y) (y1 : y < 4294967296) (hy : (x.s.r b.toNat + i % 4294967296) % 4294967296 = y) (ht : ¬ t = 0) (hp : ¬ y = 4294967232)
 (L : ∀ w, RMacAt F E x D C ai ni ci ao no co w → Calls Tryz.prog 29 #[.pointer (some ⟨D, 0, none⟩), .int .u32 y] w fun e w' => e = .returned (.tuple #[.int .u32 v, .int .i64 t]) ∧ Kept w w') :
 Calls Tryz.prog 31 #[.pointer (some ⟨E, 0, none⟩), .agg #[.int .i64 5, .int .i64 0, .int .i64 a, .int .i64 b, .int .i64 c, .int .i64 i, .bool u]] w fun e w' => e = .returned (.int .i64 t) ∧ Kept w w' := by
 have rb := h.ok.1 b.toNat (by omega)
 have ra := h.ok.1 a.toNat (by omega)
 go_enter Tryz.func31, Tryz.ntmps31
 go_upto_region 1 with (fail)
 generalize hw1 : w.alloc (Obj.cells _ _) = w1
 have hI : Has w.heap.size #[.int .i64 5, .int .i64 0, .int .i64 a, .int .i64 b, .int .i64 c, .int .i64 i, .bool u] 76 w1 := by rw [← hw1]; exact Has.new _ _ _
 have hK : Kept w w1 := by rw [← hw1]; exact (Kept.refl w).alloc _ _
 clear hw1
 have hM := h.kept hK
 have hEg : E < w.heap.size := h.sub E h.inE
 have hFg : ∀ k, F k → k < w.heap.size := h.sub
 have hFE : F E := h.inE
 have hFC : F C := h.inC
 clear h
 generalize hg : w.heap.size = g at *
 have cr := hM.reg b.toNat (by omega)
 have ca := hM.reg a.toNat (by omega)
 have c2 : w1.cell? ⟨g, 2, none⟩ = some (.int .i64 a) := hI.cell 2 _ rfl
 have c3 : w1.cell? ⟨g, 3, none⟩ = some (.int .i64 b) := hI.cell 3 _ rfl
 have c5 : w1.cell? ⟨g, 5, none⟩ = some (.int .i64 i) := hI.cell 5 _ rfl
 replace hI := Lib.hid hI
 replace hK := Lib.hid hK
 replace hM := Lib.hid hM
 refine WS.start 12 (by kernel_rfl) (by kernel_rfl) ?_
 intro w2 hw2
 have q1 : w2.cell? ⟨E, 1 + b.toNat, none⟩ = some (.int .u32 (x.s.r b.toNat)) := by rw [hw2]; exact cr
 have q2 : w2.cell? ⟨E, 1 + a.toNat, none⟩ = some (.int .u32 (x.s.r a.toNat)) := by rw [hw2]; exact ca
 have q3 : w2.cell? ⟨g, 2, none⟩ = some (.int .i64 a) := by rw [hw2]; exact c2
 have q4 : w2.cell? ⟨g, 3, none⟩ = some (.int .i64 b) := by rw [hw2]; exact c3
 have q5 : w2.cell? ⟨g, 5, none⟩ = some (.int .i64 i) := by rw [hw2]; exact c5
 have hI2 := Lib.hid (show Has g #[.int .i64 5, .int .i64 0, .int .i64 a, .int .i64 b, .int .i64 c, .int .i64 i, .bool u] 76 w2 by rw [hw2]; exact hI.out)
 have hK2 := Lib.hid (show Kept w w2 by rw [hw2]; exact hK.out.drew)
 have hM2 := Lib.hid (show RMacAt F E x D C ai ni ci ao no co w2 by rw [hw2]; exact hM.out.kept (Kept.refl w1).drew)
 clear hw2 cr ca c2 c3 c5 hI hK hM
 generalize x.s.r b.toNat = vb at *
 generalize x.s.r a.toNat = va at *
 have hyw : IntKind.u32.wrap (vb + IntKind.u32.wrap i) = y := by rw [IntKind.wrap_u32, IntKind.wrap_u32]; exact hy
 simp only [List.take_succ_cons, List.take_zero, List.drop_succ_cons, List.drop_zero]
 iterate 12 (refine WS.step rfl (fun K hK => ?_); go_simp; refine hK _ ?_; clear hK K)
 refine WS.nil ?_
 try simp only [hyw]
 go_upto_region 2 with (fail)
 refine WS.start 8 (by kernel_rfl) (by kernel_rfl) ?_
 intro w3 hw3
 have r2 : w3.cell? ⟨E, 1 + a.toNat, none⟩ = some (.int .u32 va) := by rw [hw3]; exact q2
 have r3 : w3.cell? ⟨g, 2, none⟩ = some (.int .i64 a) := by rw [hw3]; exact q3
 have hI3 := Lib.hid (show Has g #[.int .i64 5, .int .i64 0, .int .i64 a, .int .i64 b, .int .i64 c, .int .i64 i, .bool u] 76 w3 by rw [hw3]; exact hI2.out)
 have hK3 := Lib.hid (show Kept w w3 by rw [hw3]; exact hK2.out.drew)
 have hM3 := Lib.hid (show RMacAt F E x D C ai ni ci ao no co w3 by rw [hw3]; exact hM2.out.kept (Kept.refl w2).drew)
 have r1 : w3.cell? ⟨g, 1, none⟩ = some (.int .i64 0) := hI3.out.cell 1 _ rfl
 clear hw3 q1 q2 q3 q4 q5 hI2 hK2 hM2
 simp only [List.take_succ_cons, List.take_zero, List.drop_succ_cons, List.drop_zero]
 iterate 8 (refine WS.step rfl (fun K hK => ?_); go_simp; refine hK _ ?_; clear hK K)
 refine WS.nil ?_
 have cM : w3.cell? ⟨E, 0, none⟩ = some (.pointer (some ⟨D, 0, none⟩)) := hM3.out.box.cell 0 _ rfl
 have hp' : (y == 4294967232) = false := by simpa using hp
 have ht' : (t == 0) = false := by simpa using ht
 go_wp2_with (fail)
 refine (L _ hM3.out).mono ?_; rintro e w4 ⟨rfl, hK4⟩
 have hK4' := Lib.hid (hK3.out.trans hK4)
 clear hM3 hK3 hI3 hK4 L r1 r2 r3 cM
 go_wp2
 go_ret
 exact ⟨rfl, hK4'.out⟩
set_option maxHeartbeats 2000000 in
theorem rmove_0n {F : Nat → Prop} {E : Nat} {x : X.St} {D C : Nat} {ai : Option Addr} {ni ci : Nat} {ao : Option Addr} {no co : Nat} {w : World} (h : RMacAt F E x D C ai ni ci ao no co w) (a b c i y v' t' : Int) (u : Bool) (a0 : 0 ≤ a) (a1 : a < 16) (b0 : 0 ≤ b) (b1 : b < 16)
 (y0 : 0 ≤ y) (y1 : y < 4294967296) (hy : (x.s.r b.toNat + i % 4294967296) % 4294967296 = y) (hp : y = 4294967232) (hn : x.ins = [])
 (L : ∀ w, RMacAt F E x D C ai ni ci ao no co w → Calls Tryz.prog 29 #[.pointer (some ⟨D, 0, none⟩), .int .u32 y] w fun e w' => e = .returned (.tuple #[.int .u32 v', .int .i64 t']) ∧ Kept w w') :
 Calls Tryz.prog 31 #[.pointer (some ⟨E, 0, none⟩), .agg #[.int .i64 5, .int .i64 0, .int .i64 a, .int .i64 b, .int .i64 c, .int .i64 i, .bool u]] w fun e w' => e = .returned (.int .i64 0) ∧ But E w w' ∧ ∃ ai' ni' ci', RMacAt F E ⟨x.ws, A.show' (A.set x.s a.toNat 0) 0, x.pc, x.st, x.ins, x.outs⟩ D C ai' ni' ci' ao no co w' := by
 have rb := h.ok.1 b.toNat (by omega)
 have ra := h.ok.1 a.toNat (by omega)
 go_enter Tryz.func31, Tryz.ntmps31
 go_upto_region 1 with (fail)
 generalize hw1 : w.alloc (Obj.cells _ _) = w1
 have hI : Has w.heap.size #[.int .i64 5, .int .i64 0, .int .i64 a, .int .i64 b, .int .i64 c, .int .i64 i, .bool u] 76 w1 := by rw [← hw1]; exact Has.new _ _ _
 have hK : Kept w w1 := by rw [← hw1]; exact (Kept.refl w).alloc _ _
 clear hw1
 have hM := h.kept hK
 have hEg : E < w.heap.size := h.sub E h.inE
 have hFg : ∀ k, F k → k < w.heap.size := h.sub
 have hFE : F E := h.inE
 have hFC : F C := h.inC
 clear h
 generalize hg : w.heap.size = g at *
 have cr := hM.reg b.toNat (by omega)
 have ca := hM.reg a.toNat (by omega)
 have c2 : w1.cell? ⟨g, 2, none⟩ = some (.int .i64 a) := hI.cell 2 _ rfl
 have c3 : w1.cell? ⟨g, 3, none⟩ = some (.int .i64 b) := hI.cell 3 _ rfl
 have c5 : w1.cell? ⟨g, 5, none⟩ = some (.int .i64 i) := hI.cell 5 _ rfl
 replace hI := Lib.hid hI
 replace hK := Lib.hid hK
 replace hM := Lib.hid hM
 refine WS.start 12 (by kernel_rfl) (by kernel_rfl) ?_
 intro w2 hw2
 have q1 : w2.cell? ⟨E, 1 + b.toNat, none⟩ = some (.int .u32 (x.s.r b.toNat)) := by rw [hw2]; exact cr
 have q2 : w2.cell? ⟨E, 1 + a.toNat, none⟩ = some (.int .u32 (x.s.r a.toNat)) := by rw [hw2]; exact ca
 have q3 : w2.cell? ⟨g, 2, none⟩ = some (.int .i64 a) := by rw [hw2]; exact c2
 have q4 : w2.cell? ⟨g, 3, none⟩ = some (.int .i64 b) := by rw [hw2]; exact c3
 have q5 : w2.cell? ⟨g, 5, none⟩ = some (.int .i64 i) := by rw [hw2]; exact c5
 have hI2 := Lib.hid (show Has g #[.int .i64 5, .int .i64 0, .int .i64 a, .int .i64 b, .int .i64 c, .int .i64 i, .bool u] 76 w2 by rw [hw2]; exact hI.out)
 have hK2 := Lib.hid (show Kept w w2 by rw [hw2]; exact hK.out.drew)
 have hM2 := Lib.hid (show RMacAt F E x D C ai ni ci ao no co w2 by rw [hw2]; exact hM.out.kept (Kept.refl w1).drew)
 clear hw2 cr ca c2 c3 c5 hI hK hM
 generalize x.s.r b.toNat = vb at *
 generalize x.s.r a.toNat = va at *
 have hyw : IntKind.u32.wrap (vb + IntKind.u32.wrap i) = y := by rw [IntKind.wrap_u32, IntKind.wrap_u32]; exact hy
 simp only [List.take_succ_cons, List.take_zero, List.drop_succ_cons, List.drop_zero]
 iterate 12 (refine WS.step rfl (fun K hK => ?_); go_simp; refine hK _ ?_; clear hK K)
 refine WS.nil ?_
 try simp only [hyw]
 go_upto_region 2 with (fail)
 refine WS.start 8 (by kernel_rfl) (by kernel_rfl) ?_
 intro w3 hw3
 have r2 : w3.cell? ⟨E, 1 + a.toNat, none⟩ = some (.int .u32 va) := by rw [hw3]; exact q2
 have r3 : w3.cell? ⟨g, 2, none⟩ = some (.int .i64 a) := by rw [hw3]; exact q3
 have hI3 := Lib.hid (show Has g #[.int .i64 5, .int .i64 0, .int .i64 a, .int .i64 b, .int .i64 c, .int .i64 i, .bool u] 76 w3 by rw [hw3]; exact hI2.out)
 have hK3 := Lib.hid (show Kept w w3 by rw [hw3]; exact hK2.out.drew)
 have hM3 := Lib.hid (show RMacAt F E x D C ai ni ci ao no co w3 by rw [hw3]; exact hM2.out.kept (Kept.refl w2).drew)
 have r1 : w3.cell? ⟨g, 1, none⟩ = some (.int .i64 0) := hI3.out.cell 1 _ rfl
 clear hw3 q1 q2 q3 q4 q5 hI2 hK2 hM2
 simp only [List.take_succ_cons, List.take_zero, List.drop_succ_cons, List.drop_zero]
 iterate 8 (refine WS.step rfl (fun K hK => ?_); go_simp; refine hK _ ?_; clear hK K)
 refine WS.nil ?_
 have cM : w3.cell? ⟨E, 0, none⟩ = some (.pointer (some ⟨D, 0, none⟩)) := hM3.out.box.cell 0 _ rfl
 have v0 : (0 : Int) ≤ 0 := by omega
 have v1 : (0 : Int) < 4294967296 := by omega
 subst hp
 go_wp2_with (fail)
 refine (L _ hM3.out).mono ?_; rintro e w4 ⟨rfl, hK4⟩
 have hni : ni = 0 := by have := hM3.out.ins.len; rw [hn] at this; simpa using this.symm
 subst hni
 have hM4 := (hM3.out.kept hK4)
 have cin : w4.cell? ⟨E, 24, none⟩ = some (.slice ai 0 ci) := hM4.box.cell 24 _ rfl
 replace hM4 := Lib.hid hM4
 have hK4' := Lib.hid ((hK3.out.trans hK4).but E)
 have hI4 := Lib.hid (hI3.out.kept hK4)
 clear hM3 hK3 hI3 hK4 L r1 r2 r3 cM
 go_upto_region 13 with (fail)
 have t1 : w4.cell? ⟨g, 2, none⟩ = some (.int .i64 a) := hI4.out.cell 2 _ rfl
 have t2 := hM4.out.reg a.toNat (by omega)
 have t3 := hM4.out.box.free (1 + a.toNat)
 refine WS.start 8 (by kernel_rfl) (by kernel_rfl) ?_
 intro wy hwy
 have u1 : wy.cell? ⟨g, 2, none⟩ = some (.int .i64 a) := by rw [hwy]; exact t1
 have u2 : ∃ z, wy.cell? ⟨E, 1 + a.toNat, none⟩ = some (.int .u32 z) := ⟨_, by rw [hwy]; exact t2⟩
 have u3 : wy.frozen? ⟨E, 1 + a.toNat, none⟩ = false := by rw [hwy]; exact t3
 have hMy := hM4.out.kept (Kept.refl w4).drew
 rw [show w4.drew = wy from hwy.symm] at hMy
 have hKy := hK4'.out.drew
 rw [show w4.drew = wy from hwy.symm] at hKy
 obtain ⟨z, u2⟩ := u2
 clear hwy t1 t2 t3 hM4 hK4' hI4
 replace hMy := Lib.hid hMy
 replace hKy := Lib.hid hKy
 simp only [List.take_succ_cons, List.take_zero, List.drop_succ_cons, List.drop_zero]
 iterate 8 (refine WS.step rfl (fun K hK => ?_); go_simp; refine hK _ ?_; clear hK K)
 refine WS.nil ?_
 have hb := hMy.out.box.set (1 + a.toNat) (.int .u32 0)
 rw [X.rc_set _ _ _ _ _ _ a.toNat (by omega)] at hb
 have hB := (But.refl E wy).setCell (1 + a.toNat) (.int .u32 0)
 replace hb := Lib.hid hb
 replace hB := Lib.hid hB
 go_upto_region 14 with (fail)
 generalize wy.setCell _ _ = wx at *
 clear u1 u2 u3
 go_wp2_with (with_reducible refine wpList_load_mid (op := ⟨some 80, _, _, _, _, _⟩) rfl 48 _ rfl _ _ rfl (A.cells (A.set x.s a.toNat 0)).toList _ (X.rc_range hb.out) Tryz.underlying48 rfl (by rw [Array.length_toList]; exact A.info25 _) ?_)
 refine (rshow_any _ 0 v0 v1 _).mono ?_; rintro e wv ⟨rfl, hKv⟩
 have hbv := hb.out.kept hKv
 have hth := hbv.there 1 21 (by rw [X.rc_size]; omega)
 have hb3 := Has.setN (A.cells (A.show' (A.set x.s a.toNat 0) 0)).toList 1 _ wv hbv
 rw [X.rc_regs] at hb3
 have hB3 : But E wv (wv.setCells E 1 (A.cells (A.show' (A.set x.s a.toNat 0) 0)).toList) := but_setCells _ _ _ _ (But.refl E wv)
 have hBB := (hB.out.trans (hKv.but E)).trans hB3
 have hMf := Lib.hid (hMy.out.own hBB _ _ _ hb3 (A.ok_show _ _ (A.ok_set _ _ _ hMy.out.ok v0 v1)) hMy.out.pc0 hMy.out.pc1)
 have hBf := Lib.hid (hKy.out.trans hBB)
 clear hb3 hB3 hBB hb hB hbv hKv hMy hKy
 go_wp2_with (with_reducible refine wpList_store_mid rfl 48 _ _ rfl _ _ (A.cells (A.show' (A.set x.s a.toNat 0) 0)) rfl rfl hth (A.info25 _) (A.one_cells _) ?_; generalize World.setCells _ _ _ _ = wu at *)
 go_ret
 exact ⟨rfl, hBf.out, _, _, _, hMf.out⟩
set_option maxHeartbeats 2000000 in
theorem rmove_0i {F : Nat → Prop} {E : Nat} {x : X.St} {D C : Nat} {ai : Option Addr} {ni ci : Nat} {ao : Option Addr} {no co : Nat} {w : World} (h : RMacAt F E x D C ai ni ci ao no co w) (a b c i y v v' t' : Int) (u : Bool) (a0 : 0 ≤ a) (a1 : a < 16) (b0 : 0 ≤ b) (b1 : b < 16)
 (y0 : 0 ≤ y) (y1 : y < 4294967296) (hy : (x.s.r b.toNat + i % 4294967296) % 4294967296 = y) (ys : List Int) (v0 : 0 ≤ v) (v1 : v < 4294967296) (hp : y = 4294967232) (hn : x.ins = v :: ys)
 (L : ∀ w, RMacAt F E x D C ai ni ci ao no co w → Calls Tryz.prog 29 #[.pointer (some ⟨D, 0, none⟩), .int .u32 y] w fun e w' => e = .returned (.tuple #[.int .u32 v', .int .i64 t']) ∧ Kept w w') :
 Calls Tryz.prog 31 #[.pointer (some ⟨E, 0, none⟩), .agg #[.int .i64 5, .int .i64 0, .int .i64 a, .int .i64 b, .int .i64 c, .int .i64 i, .bool u]] w fun e w' => e = .returned (.int .i64 0) ∧ But E w w' ∧ ∃ ai' ni' ci', RMacAt F E ⟨x.ws, A.show' (A.set x.s a.toNat v) v, x.pc, x.st, ys, x.outs⟩ D C ai' ni' ci' ao no co w' := by
 have rb := h.ok.1 b.toNat (by omega)
 have ra := h.ok.1 a.toNat (by omega)
 go_enter Tryz.func31, Tryz.ntmps31
 go_upto_region 1 with (fail)
 generalize hw1 : w.alloc (Obj.cells _ _) = w1
 have hI : Has w.heap.size #[.int .i64 5, .int .i64 0, .int .i64 a, .int .i64 b, .int .i64 c, .int .i64 i, .bool u] 76 w1 := by rw [← hw1]; exact Has.new _ _ _
 have hK : Kept w w1 := by rw [← hw1]; exact (Kept.refl w).alloc _ _
 clear hw1
 have hM := h.kept hK
 have hEg : E < w.heap.size := h.sub E h.inE
 have hFg : ∀ k, F k → k < w.heap.size := h.sub
 have hFE : F E := h.inE
 have hFC : F C := h.inC
 clear h
 generalize hg : w.heap.size = g at *
 have cr := hM.reg b.toNat (by omega)
 have ca := hM.reg a.toNat (by omega)
 have c2 : w1.cell? ⟨g, 2, none⟩ = some (.int .i64 a) := hI.cell 2 _ rfl
 have c3 : w1.cell? ⟨g, 3, none⟩ = some (.int .i64 b) := hI.cell 3 _ rfl
 have c5 : w1.cell? ⟨g, 5, none⟩ = some (.int .i64 i) := hI.cell 5 _ rfl
 replace hI := Lib.hid hI
 replace hK := Lib.hid hK
 replace hM := Lib.hid hM
 refine WS.start 12 (by kernel_rfl) (by kernel_rfl) ?_
 intro w2 hw2
 have q1 : w2.cell? ⟨E, 1 + b.toNat, none⟩ = some (.int .u32 (x.s.r b.toNat)) := by rw [hw2]; exact cr
 have q2 : w2.cell? ⟨E, 1 + a.toNat, none⟩ = some (.int .u32 (x.s.r a.toNat)) := by rw [hw2]; exact ca
 have q3 : w2.cell? ⟨g, 2, none⟩ = some (.int .i64 a) := by rw [hw2]; exact c2
 have q4 : w2.cell? ⟨g, 3, none⟩ = some (.int .i64 b) := by rw [hw2]; exact c3
 have q5 : w2.cell? ⟨g, 5, none⟩ = some (.int .i64 i) := by rw [hw2]; exact c5
 have hI2 := Lib.hid (show Has g #[.int .i64 5, .int .i64 0, .int .i64 a, .int .i64 b, .int .i64 c, .int .i64 i, .bool u] 76 w2 by rw [hw2]; exact hI.out)
 have hK2 := Lib.hid (show Kept w w2 by rw [hw2]; exact hK.out.drew)
 have hM2 := Lib.hid (show RMacAt F E x D C ai ni ci ao no co w2 by rw [hw2]; exact hM.out.kept (Kept.refl w1).drew)
 clear hw2 cr ca c2 c3 c5 hI hK hM
 generalize x.s.r b.toNat = vb at *
 generalize x.s.r a.toNat = va at *
 have hyw : IntKind.u32.wrap (vb + IntKind.u32.wrap i) = y := by rw [IntKind.wrap_u32, IntKind.wrap_u32]; exact hy
 simp only [List.take_succ_cons, List.take_zero, List.drop_succ_cons, List.drop_zero]
 iterate 12 (refine WS.step rfl (fun K hK => ?_); go_simp; refine hK _ ?_; clear hK K)
 refine WS.nil ?_
 try simp only [hyw]
 go_upto_region 2 with (fail)
 refine WS.start 8 (by kernel_rfl) (by kernel_rfl) ?_
 intro w3 hw3
 have r2 : w3.cell? ⟨E, 1 + a.toNat, none⟩ = some (.int .u32 va) := by rw [hw3]; exact q2
 have r3 : w3.cell? ⟨g, 2, none⟩ = some (.int .i64 a) := by rw [hw3]; exact q3
 have hI3 := Lib.hid (show Has g #[.int .i64 5, .int .i64 0, .int .i64 a, .int .i64 b, .int .i64 c, .int .i64 i, .bool u] 76 w3 by rw [hw3]; exact hI2.out)
 have hK3 := Lib.hid (show Kept w w3 by rw [hw3]; exact hK2.out.drew)
 have hM3 := Lib.hid (show RMacAt F E x D C ai ni ci ao no co w3 by rw [hw3]; exact hM2.out.kept (Kept.refl w2).drew)
 have r1 : w3.cell? ⟨g, 1, none⟩ = some (.int .i64 0) := hI3.out.cell 1 _ rfl
 clear hw3 q1 q2 q3 q4 q5 hI2 hK2 hM2
 simp only [List.take_succ_cons, List.take_zero, List.drop_succ_cons, List.drop_zero]
 iterate 8 (refine WS.step rfl (fun K hK => ?_); go_simp; refine hK _ ?_; clear hK K)
 refine WS.nil ?_
 have cM : w3.cell? ⟨E, 0, none⟩ = some (.pointer (some ⟨D, 0, none⟩)) := hM3.out.box.cell 0 _ rfl
 subst hp
 go_wp2_with (fail)
 refine (L _ hM3.out).mono ?_; rintro e w4 ⟨rfl, hK4⟩
 obtain ⟨m, rfl⟩ : ∃ m, ni = m + 1 := ⟨ys.length, by have := hM3.out.ins.len; rw [hn] at this; simpa using this.symm⟩
 have hw := hM3.out.ins
 rw [hn] at hw
 obtain ⟨bb, off, rfl⟩ : ∃ b off, ai = some ⟨b, off, none⟩ := by
  cases ai with
  | none => have := hw.nil rfl; have := hw.le; omega
  | some ad => obtain ⟨b, off, rfl⟩ := hw.addr (by omega); exact ⟨b, off, rfl⟩
 have hM4 := (hM3.out.kept hK4)
 have cin : w4.cell? ⟨E, 24, none⟩ = some (.slice (some ⟨bb, off, none⟩) (m + 1) ci) := hM4.box.cell 24 _ rfl
 have fin := hM4.box.free 24
 have hw4 := hM4.ins
 rw [hn] at hw4
 have cv : w4.cell? ⟨bb, off, none⟩ = some (.int .u32 v) := hw4.cellAt 0 v rfl
 have hle := hw4.le
 have hmx := hw4.max
 replace hM4 := Lib.hid hM4
 have hK4' := Lib.hid ((hK3.out.trans hK4).but E)
 have hI4 := Lib.hid (hI3.out.kept hK4)
 clear hM3 hK3 hI3 hK4 L r1 r2 r3 cM hw hw4
 go_upto_region 11 with (fail)
 have hE1 := fun A' hA => hM4.out.eaten hn A' hA
 replace hE1 := Lib.hid hE1
 go_upto_region 12 with (fail)
 generalize hA' : (if ci = 1 then (some ⟨bb, off, none⟩ : Option Addr) else some ⟨bb, off + 1, none⟩) = A' at *
 have hM5 := hE1.out A' (by
  by_cases c1 : ci = 1
  · rw [if_pos c1] at hA'; exact Or.inr ⟨by omega, hA'.symm⟩
  · rw [if_neg c1] at hA'; exact Or.inl hA'.symm)
 clear hA'
 have hB5 : But E w4 (w4.setCell ⟨E, 24, none⟩ (.slice A' m (ci - 1))) := (But.refl E w4).setCell _ _
 have hI5 := Lib.hid (hB5.has (by omega) hI4.out)
 have hK5 := Lib.hid (hK4'.out.trans hB5)
 replace hM5 := Lib.hid hM5
 clear hE1 hM4 hK4' hI4 hB5 cin fin cv
 generalize w4.setCell _ _ = w5 at *
 go_upto_region 13 with (fail)
 have t1 : w5.cell? ⟨g, 2, none⟩ = some (.int .i64 a) := hI5.out.cell 2 _ rfl
 have t2 := hM5.out.reg a.toNat (by omega)
 have t3 := hM5.out.box.free (1 + a.toNat)
 refine WS.start 8 (by kernel_rfl) (by kernel_rfl) ?_
 intro wy hwy
 have u1 : wy.cell? ⟨g, 2, none⟩ = some (.int .i64 a) := by rw [hwy]; exact t1
 have u2 : ∃ z, wy.cell? ⟨E, 1 + a.toNat, none⟩ = some (.int .u32 z) := ⟨_, by rw [hwy]; exact t2⟩
 have u3 : wy.frozen? ⟨E, 1 + a.toNat, none⟩ = false := by rw [hwy]; exact t3
 have hMy := hM5.out.kept (Kept.refl w5).drew
 rw [show w5.drew = wy from hwy.symm] at hMy
 have hKy := hK5.out.drew
 rw [show w5.drew = wy from hwy.symm] at hKy
 obtain ⟨z, u2⟩ := u2
 clear hwy t1 t2 t3 hM5 hK5 hI5
 replace hMy := Lib.hid hMy
 replace hKy := Lib.hid hKy
 simp only [List.take_succ_cons, List.take_zero, List.drop_succ_cons, List.drop_zero]
 iterate 8 (refine WS.step rfl (fun K hK => ?_); go_simp; refine hK _ ?_; clear hK K)
 refine WS.nil ?_
 have hb := hMy.out.box.set (1 + a.toNat) (.int .u32 v)
 rw [X.rc_set _ _ _ _ _ _ a.toNat (by omega)] at hb
 have hB := (But.refl E wy).setCell (1 + a.toNat) (.int .u32 v)
 replace hb := Lib.hid hb
 replace hB := Lib.hid hB
 go_upto_region 14 with (fail)
 generalize wy.setCell _ _ = wx at *
 clear u1 u2 u3
 go_wp2_with (with_reducible refine wpList_load_mid (op := ⟨some 80, _, _, _, _, _⟩) rfl 48 _ rfl _ _ rfl (A.cells (A.set x.s a.toNat v)).toList _ (X.rc_range hb.out) Tryz.underlying48 rfl (by rw [Array.length_toList]; exact A.info25 _) ?_)
 refine (rshow_any _ v v0 v1 _).mono ?_; rintro e wv ⟨rfl, hKv⟩
 have hbv := hb.out.kept hKv
 have hth := hbv.there 1 21 (by rw [X.rc_size]; omega)
 have hb3 := Has.setN (A.cells (A.show' (A.set x.s a.toNat v) v)).toList 1 _ wv hbv
 rw [X.rc_regs] at hb3
 have hB3 : But E wv (wv.setCells E 1 (A.cells (A.show' (A.set x.s a.toNat v) v)).toList) := but_setCells _ _ _ _ (But.refl E wv)
 have hBB := (hB.out.trans (hKv.but E)).trans hB3
 have hMf := Lib.hid (hMy.out.own hBB _ _ _ hb3 (A.ok_show _ _ (A.ok_set _ _ _ hMy.out.ok v0 v1)) hMy.out.pc0 hMy.out.pc1)
 have hBf := Lib.hid (hKy.out.trans hBB)
 clear hb3 hB3 hBB hb hB hbv hKv hMy hKy
 go_wp2_with (with_reducible refine wpList_store_mid rfl 48 _ _ rfl _ _ (A.cells (A.show' (A.set x.s a.toNat v) v)) rfl rfl hth (A.info25 _) (A.one_cells _) ?_; generalize World.setCells _ _ _ _ = wu at *)
 go_ret
 exact ⟨rfl, hBf.out, _, _, _, hMf.out⟩
set_option maxHeartbeats 2000000 in
theorem rmove_1w {F : Nat → Prop} {E : Nat} {x : X.St} {D C : Nat} {ai : Option Addr} {ni ci : Nat} {ao : Option Addr} {no co : Nat} {w : World} (h : RMacAt F E x D C ai ni ci ao no co w) (a b c i y v : Int) (u : Bool) (a0 : 0 ≤ a) (a1 : a < 16) (b0 : 0 ≤ b) (b1 : b < 16)
 (y0 : 0 ≤ y) (y1 : y < 4294967296) (hy : (x.s.r b.toNat + i % 4294967296) % 4294967296 = y) (v0 : 0 ≤ v) (v256 : v < 256)
 (L : ∀ w, RMacAt F E x D C ai ni ci ao no co w → Calls Tryz.prog 51 #[.pointer (some ⟨D, 0, none⟩), .int .u32 y] w fun e w' => e = .returned (.tuple #[.int .u8 v, .int .i64 0]) ∧ w = w') :
 Calls Tryz.prog 31 #[.pointer (some ⟨E, 0, none⟩), .agg #[.int .i64 5, .int .i64 1, .int .i64 a, .int .i64 b, .int .i64 c, .int .i64 i, .bool u]] w fun e w' => e = .returned (.int .i64 0) ∧ But E w w' ∧ ∃ ai' ni' ci', RMacAt F E ⟨x.ws, A.show' (A.set x.s a.toNat v) v, x.pc, x.st, x.ins, x.outs⟩ D C ai' ni' ci' ao no co w' := by
 have rb := h.ok.1 b.toNat (by omega)
 have ra := h.ok.1 a.toNat (by omega)
 go_enter Tryz.func31, Tryz.ntmps31
 go_upto_region 1 with (fail)
 generalize hw1 : w.alloc (Obj.cells _ _) = w1
 have hI : Has w.heap.size #[.int .i64 5, .int .i64 1, .int .i64 a, .int .i64 b, .int .i64 c, .int .i64 i, .bool u] 76 w1 := by rw [← hw1]; exact Has.new _ _ _
 have hK : Kept w w1 := by rw [← hw1]; exact (Kept.refl w).alloc _ _
 clear hw1
 have hM := h.kept hK
 have hEg : E < w.heap.size := h.sub E h.inE
 have hFg : ∀ k, F k → k < w.heap.size := h.sub
 have hFE : F E := h.inE
 have hFC : F C := h.inC
 clear h
 generalize hg : w.heap.size = g at *
 have cr := hM.reg b.toNat (by omega)
 have ca := hM.reg a.toNat (by omega)
 have c2 : w1.cell? ⟨g, 2, none⟩ = some (.int .i64 a) := hI.cell 2 _ rfl
 have c3 : w1.cell? ⟨g, 3, none⟩ = some (.int .i64 b) := hI.cell 3 _ rfl
 have c5 : w1.cell? ⟨g, 5, none⟩ = some (.int .i64 i) := hI.cell 5 _ rfl
 replace hI := Lib.hid hI
 replace hK := Lib.hid hK
 replace hM := Lib.hid hM
 refine WS.start 12 (by kernel_rfl) (by kernel_rfl) ?_
 intro w2 hw2
 have q1 : w2.cell? ⟨E, 1 + b.toNat, none⟩ = some (.int .u32 (x.s.r b.toNat)) := by rw [hw2]; exact cr
 have q2 : w2.cell? ⟨E, 1 + a.toNat, none⟩ = some (.int .u32 (x.s.r a.toNat)) := by rw [hw2]; exact ca
 have q3 : w2.cell? ⟨g, 2, none⟩ = some (.int .i64 a) := by rw [hw2]; exact c2
 have q4 : w2.cell? ⟨g, 3, none⟩ = some (.int .i64 b) := by rw [hw2]; exact c3
 have q5 : w2.cell? ⟨g, 5, none⟩ = some (.int .i64 i) := by rw [hw2]; exact c5
 have hI2 := Lib.hid (show Has g #[.int .i64 5, .int .i64 1, .int .i64 a, .int .i64 b, .int .i64 c, .int .i64 i, .bool u] 76 w2 by rw [hw2]; exact hI.out)
 have hK2 := Lib.hid (show Kept w w2 by rw [hw2]; exact hK.out.drew)
 have hM2 := Lib.hid (show RMacAt F E x D C ai ni ci ao no co w2 by rw [hw2]; exact hM.out.kept (Kept.refl w1).drew)
 clear hw2 cr ca c2 c3 c5 hI hK hM
 generalize x.s.r b.toNat = vb at *
 generalize x.s.r a.toNat = va at *
 have hyw : IntKind.u32.wrap (vb + IntKind.u32.wrap i) = y := by rw [IntKind.wrap_u32, IntKind.wrap_u32]; exact hy
 simp only [List.take_succ_cons, List.take_zero, List.drop_succ_cons, List.drop_zero]
 iterate 12 (refine WS.step rfl (fun K hK => ?_); go_simp; refine hK _ ?_; clear hK K)
 refine WS.nil ?_
 try simp only [hyw]
 go_upto_region 2 with (fail)
 refine WS.start 8 (by kernel_rfl) (by kernel_rfl) ?_
 intro w3 hw3
 have r2 : w3.cell? ⟨E, 1 + a.toNat, none⟩ = some (.int .u32 va) := by rw [hw3]; exact q2
 have r3 : w3.cell? ⟨g, 2, none⟩ = some (.int .i64 a) := by rw [hw3]; exact q3
 have hI3 := Lib.hid (show Has g #[.int .i64 5, .int .i64 1, .int .i64 a, .int .i64 b, .int .i64 c, .int .i64 i, .bool u] 76 w3 by rw [hw3]; exact hI2.out)
 have hK3 := Lib.hid (show Kept w w3 by rw [hw3]; exact hK2.out.drew)
 have hM3 := Lib.hid (show RMacAt F E x D C ai ni ci ao no co w3 by rw [hw3]; exact hM2.out.kept (Kept.refl w2).drew)
 have r1 : w3.cell? ⟨g, 1, none⟩ = some (.int .i64 1) := hI3.out.cell 1 _ rfl
 clear hw3 q1 q2 q3 q4 q5 hI2 hK2 hM2
 simp only [List.take_succ_cons, List.take_zero, List.drop_succ_cons, List.drop_zero]
 iterate 8 (refine WS.step rfl (fun K hK => ?_); go_simp; refine hK _ ?_; clear hK K)
 refine WS.nil ?_
 have cM : w3.cell? ⟨E, 0, none⟩ = some (.pointer (some ⟨D, 0, none⟩)) := hM3.out.box.cell 0 _ rfl
 have v1 : v < 4294967296 := by omega
 have hv : IntKind.u32.wrap v = v := by rw [IntKind.wrap_u32]; omega
 go_wp2_with (fail)
 refine (L _ hM3.out).mono ?_; rintro e w4 ⟨rfl, rfl⟩
 have hM4 := hM3
 have hK4' := Lib.hid (hK3.out.but E)
 have hI4 := hI3
 clear hM3 hK3 hI3 L r1 r2 r3 cM
 go_upto_region 19 with (fail)
 have t1 : w3.cell? ⟨g, 2, none⟩ = some (.int .i64 a) := hI4.out.cell 2 _ rfl
 have t2 := hM4.out.reg a.toNat (by omega)
 have t3 := hM4.out.box.free (1 + a.toNat)
 refine WS.start 9 (by kernel_rfl) (by kernel_rfl) ?_
 intro wy hwy
 have u1 : wy.cell? ⟨g, 2, none⟩ = some (.int .i64 a) := by rw [hwy]; exact t1
 have u2 : ∃ z, wy.cell? ⟨E, 1 + a.toNat, none⟩ = some (.int .u32 z) := ⟨_, by rw [hwy]; exact t2⟩
 have u3 : wy.frozen? ⟨E, 1 + a.toNat, none⟩ = false := by rw [hwy]; exact t3
 have hMy := hM4.out.kept (Kept.refl w3).drew
 rw [show w3.drew = wy from hwy.symm] at hMy
 have hKy := hK4'.out.drew
 rw [show w3.drew = wy from hwy.symm] at hKy
 obtain ⟨z, u2⟩ := u2
 clear hwy t1 t2 t3 hM4 hK4' hI4
 replace hMy := Lib.hid hMy
 replace hKy := Lib.hid hKy
 simp only [List.take_succ_cons, List.take_zero, List.drop_succ_cons, List.drop_zero]
 iterate 9 (refine WS.step rfl (fun K hK => ?_); go_simp; refine hK _ ?_; clear hK K)
 refine WS.nil ?_
 have hb := hMy.out.box.set (1 + a.toNat) (.int .u32 v)
 rw [X.rc_set _ _ _ _ _ _ a.toNat (by omega)] at hb
 have hB := (But.refl E wy).setCell (1 + a.toNat) (.int .u32 v)
 replace hb := Lib.hid hb
 replace hB := Lib.hid hB
 go_upto_region 20 with (fail)
 generalize wy.setCell _ _ = wx at *
 clear u1 u2 u3
 go_wp2_with (with_reducible refine wpList_load_mid (op := ⟨some 112, _, _, _, _, _⟩) rfl 48 _ rfl _ _ rfl (A.cells (A.set x.s a.toNat v)).toList _ (X.rc_range hb.out) Tryz.underlying48 rfl (by rw [Array.length_toList]; exact A.info25 _) ?_)
 refine (rshow_any _ v v0 v1 _).mono ?_; rintro e wv ⟨rfl, hKv⟩
 have hbv := hb.out.kept hKv
 have hth := hbv.there 1 21 (by rw [X.rc_size]; omega)
 have hb3 := Has.setN (A.cells (A.show' (A.set x.s a.toNat v) v)).toList 1 _ wv hbv
 rw [X.rc_regs] at hb3
 have hB3 : But E wv (wv.setCells E 1 (A.cells (A.show' (A.set x.s a.toNat v) v)).toList) := but_setCells _ _ _ _ (But.refl E wv)
 have hBB := (hB.out.trans (hKv.but E)).trans hB3
 have hMf := Lib.hid (hMy.out.own hBB _ _ _ hb3 (A.ok_show _ _ (A.ok_set _ _ _ hMy.out.ok v0 v1)) hMy.out.pc0 hMy.out.pc1)
 have hBf := Lib.hid (hKy.out.trans hBB)
 clear hb3 hB3 hBB hb hB hbv hKv hMy hKy
 go_wp2_with (with_reducible refine wpList_store_mid rfl 48 _ _ rfl _ _ (A.cells (A.show' (A.set x.s a.toNat v) v)) rfl rfl hth (A.info25 _) (A.one_cells _) ?_; generalize World.setCells _ _ _ _ = wu at *)
 go_ret
 exact ⟨rfl, hBf.out, _, _, _, hMf.out⟩
set_option maxHeartbeats 2000000 in
theorem rmove_1t {F : Nat → Prop} {E : Nat} {x : X.St} {D C : Nat} {ai : Option Addr} {ni ci : Nat} {ao : Option Addr} {no co : Nat} {w : World} (h : RMacAt F E x D C ai ni ci ao no co w) (a b c i y v t : Int) (u : Bool) (a0 : 0 ≤ a) (a1 : a < 16) (b0 : 0 ≤ b) (b1 : b < 16)
 (y0 : 0 ≤ y) (y1 : y < 4294967296) (hy : (x.s.r b.toNat + i % 4294967296) % 4294967296 = y) (ht : ¬ t = 0)
 (L : ∀ w, RMacAt F E x D C ai ni ci ao no co w → Calls Tryz.prog 51 #[.pointer (some ⟨D, 0, none⟩), .int .u32 y] w fun e w' => e = .returned (.tuple #[.int .u8 v, .int .i64 t]) ∧ w = w') :
 Calls Tryz.prog 31 #[.pointer (some ⟨E, 0, none⟩), .agg #[.int .i64 5, .int .i64 1, .int .i64 a, .int .i64 b, .int .i64 c, .int .i64 i, .bool u]] w fun e w' => e = .returned (.int .i64 t) ∧ Kept w w' := by
 have rb := h.ok.1 b.toNat (by omega)
 have ra := h.ok.1 a.toNat (by omega)
 go_enter Tryz.func31, Tryz.ntmps31
 go_upto_region 1 with (fail)
 generalize hw1 : w.alloc (Obj.cells _ _) = w1
 have hI : Has w.heap.size #[.int .i64 5, .int .i64 1, .int .i64 a, .int .i64 b, .int .i64 c, .int .i64 i, .bool u] 76 w1 := by rw [← hw1]; exact Has.new _ _ _
 have hK : Kept w w1 := by rw [← hw1]; exact (Kept.refl w).alloc _ _
 clear hw1
 have hM := h.kept hK
 have hEg : E < w.heap.size := h.sub E h.inE
 have hFg : ∀ k, F k → k < w.heap.size := h.sub
 have hFE : F E := h.inE
 have hFC : F C := h.inC
 clear h
 generalize hg : w.heap.size = g at *
 have cr := hM.reg b.toNat (by omega)
 have ca := hM.reg a.toNat (by omega)
 have c2 : w1.cell? ⟨g, 2, none⟩ = some (.int .i64 a) := hI.cell 2 _ rfl
 have c3 : w1.cell? ⟨g, 3, none⟩ = some (.int .i64 b) := hI.cell 3 _ rfl
 have c5 : w1.cell? ⟨g, 5, none⟩ = some (.int .i64 i) := hI.cell 5 _ rfl
 replace hI := Lib.hid hI
 replace hK := Lib.hid hK
 replace hM := Lib.hid hM
 refine WS.start 12 (by kernel_rfl) (by kernel_rfl) ?_
 intro w2 hw2
 have q1 : w2.cell? ⟨E, 1 + b.toNat, none⟩ = some (.int .u32 (x.s.r b.toNat)) := by rw [hw2]; exact cr
 have q2 : w2.cell? ⟨E, 1 + a.toNat, none⟩ = some (.int .u32 (x.s.r a.toNat)) := by rw [hw2]; exact ca
 have q3 : w2.cell? ⟨g, 2, none⟩ = some (.int .i64 a) := by rw [hw2]; exact c2
 have q4 : w2.cell? ⟨g, 3, none⟩ = some (.int .i64 b) := by rw [hw2]; exact c3
 have q5 : w2.cell? ⟨g, 5, none⟩ = some (.int .i64 i) := by rw [hw2]; exact c5
 have hI2 := Lib.hid (show Has g #[.int .i64 5, .int .i64 1, .int .i64 a, .int .i64 b, .int .i64 c, .int .i64 i, .bool u] 76 w2 by rw [hw2]; exact hI.out)
 have hK2 := Lib.hid (show Kept w w2 by rw [hw2]; exact hK.out.drew)
 have hM2 := Lib.hid (show RMacAt F E x D C ai ni ci ao no co w2 by rw [hw2]; exact hM.out.kept (Kept.refl w1).drew)
 clear hw2 cr ca c2 c3 c5 hI hK hM
 generalize x.s.r b.toNat = vb at *
 generalize x.s.r a.toNat = va at *
 have hyw : IntKind.u32.wrap (vb + IntKind.u32.wrap i) = y := by rw [IntKind.wrap_u32, IntKind.wrap_u32]; exact hy
 simp only [List.take_succ_cons, List.take_zero, List.drop_succ_cons, List.drop_zero]
 iterate 12 (refine WS.step rfl (fun K hK => ?_); go_simp; refine hK _ ?_; clear hK K)
 refine WS.nil ?_
 try simp only [hyw]
 go_upto_region 2 with (fail)
 refine WS.start 8 (by kernel_rfl) (by kernel_rfl) ?_
 intro w3 hw3
 have r2 : w3.cell? ⟨E, 1 + a.toNat, none⟩ = some (.int .u32 va) := by rw [hw3]; exact q2
 have r3 : w3.cell? ⟨g, 2, none⟩ = some (.int .i64 a) := by rw [hw3]; exact q3
 have hI3 := Lib.hid (show Has g #[.int .i64 5, .int .i64 1, .int .i64 a, .int .i64 b, .int .i64 c, .int .i64 i, .bool u] 76 w3 by rw [hw3]; exact hI2.out)
 have hK3 := Lib.hid (show Kept w w3 by rw [hw3]; exact hK2.out.drew)
 have hM3 := Lib.hid (show RMacAt F E x D C ai ni ci ao no co w3 by rw [hw3]; exact hM2.out.kept (Kept.refl w2).drew)
 have r1 : w3.cell? ⟨g, 1, none⟩ = some (.int .i64 1) := hI3.out.cell 1 _ rfl
 clear hw3 q1 q2 q3 q4 q5 hI2 hK2 hM2
 simp only [List.take_succ_cons, List.take_zero, List.drop_succ_cons, List.drop_zero]
 iterate 8 (refine WS.step rfl (fun K hK => ?_); go_simp; refine hK _ ?_; clear hK K)
 refine WS.nil ?_
 have cM : w3.cell? ⟨E, 0, none⟩ = some (.pointer (some ⟨D, 0, none⟩)) := hM3.out.box.cell 0 _ rfl
 have ht' : (t == 0) = false := by simpa using ht
 go_wp2_with (fail)
 refine (L _ hM3.out).mono ?_; rintro e w4 ⟨rfl, rfl⟩
 clear hM3 hI3 L r1 r2 r3 cM
 go_wp2
 go_ret
 exact ⟨rfl, hK3.out⟩
set_option maxHeartbeats 2000000 in
theorem rmove_3 {F : Nat → Prop} {E : Nat} {x : X.St} {D C : Nat} {ai : Option Addr} {ni ci : Nat} {ao : Option Addr} {no co : Nat} {w : World} (h : RMacAt F E x D C ai ni ci ao no co w) (a b c i y t z : Int) (u : Bool) (a0 : 0 ≤ a) (a1 : a < 16) (b0 : 0 ≤ b) (b1 : b < 16)
 (y0 : 0 ≤ y) (y1 : y < 4294967296) (hy : (x.s.r b.toNat + i % 4294967296) % 4294967296 = y) (hz : x.s.r a.toNat % 256 = z) (W' : List Int)
 (L : ∀ w, RMacAt F E x D C ai ni ci ao no co w → Calls Tryz.prog 52 #[.pointer (some ⟨D, 0, none⟩), .int .u32 y, .int .u8 z] w fun e w' => e = .returned (.int .i64 t) ∧ But C w w' ∧ RMacAt F E ⟨W', x.s, x.pc, x.st, x.ins, x.outs⟩ D C ai ni ci ao no co w') :
 Calls Tryz.prog 31 #[.pointer (some ⟨E, 0, none⟩), .agg #[.int .i64 5, .int .i64 3, .int .i64 a, .int .i64 b, .int .i64 c, .int .i64 i, .bool u]] w fun e w' => e = .returned (.int .i64 t) ∧ But C w w' ∧ RMacAt F E ⟨W', x.s, x.pc, x.st, x.ins, x.outs⟩ D C ai ni ci ao no co w' := by
 have rb := h.ok.1 b.toNat (by omega)
 have ra := h.ok.1 a.toNat (by omega)
 go_enter Tryz.func31, Tryz.ntmps31
 go_upto_region 1 with (fail)
 generalize hw1 : w.alloc (Obj.cells _ _) = w1
 have hI : Has w.heap.size #[.int .i64 5, .int .i64 3, .int .i64 a, .int .i64 b, .int .i64 c, .int .i64 i, .bool u] 76 w1 := by rw [← hw1]; exact Has.new _ _ _
 have hK : Kept w w1 := by rw [← hw1]; exact (Kept.refl w).alloc _ _
 clear hw1
 have hM := h.kept hK
 have hEg : E < w.heap.size := h.sub E h.inE
 have hFg : ∀ k, F k → k < w.heap.size := h.sub
 have hFE : F E := h.inE
 have hFC : F C := h.inC
 clear h
 generalize hg : w.heap.size = g at *
 have cr := hM.reg b.toNat (by omega)
 have ca := hM.reg a.toNat (by omega)
 have c2 : w1.cell? ⟨g, 2, none⟩ = some (.int .i64 a) := hI.cell 2 _ rfl
 have c3 : w1.cell? ⟨g, 3, none⟩ = some (.int .i64 b) := hI.cell 3 _ rfl
 have c5 : w1.cell? ⟨g, 5, none⟩ = some (.int .i64 i) := hI.cell 5 _ rfl
 replace hI := Lib.hid hI
 replace hK := Lib.hid hK
 replace hM := Lib.hid hM
 refine WS.start 12 (by kernel_rfl) (by kernel_rfl) ?_
 intro w2 hw2
 have q1 : w2.cell? ⟨E, 1 + b.toNat, none⟩ = some (.int .u32 (x.s.r b.toNat)) := by rw [hw2]; exact cr
 have q2 : w2.cell? ⟨E, 1 + a.toNat, none⟩ = some (.int .u32 (x.s.r a.toNat)) := by rw [hw2]; exact ca
 have q3 : w2.cell? ⟨g, 2, none⟩ = some (.int .i64 a) := by rw [hw2]; exact c2
 have q4 : w2.cell? ⟨g, 3, none⟩ = some (.int .i64 b) := by rw [hw2]; exact c3
 have q5 : w2.cell? ⟨g, 5, none⟩ = some (.int .i64 i) := by rw [hw2]; exact c5
 have hI2 := Lib.hid (show Has g #[.int .i64 5, .int .i64 3, .int .i64 a, .int .i64 b, .int .i64 c, .int .i64 i, .bool u] 76 w2 by rw [hw2]; exact hI.out)
 have hK2 := Lib.hid (show Kept w w2 by rw [hw2]; exact hK.out.drew)
 have hM2 := Lib.hid (show RMacAt F E x D C ai ni ci ao no co w2 by rw [hw2]; exact hM.out.kept (Kept.refl w1).drew)
 clear hw2 cr ca c2 c3 c5 hI hK hM
 generalize x.s.r b.toNat = vb at *
 generalize x.s.r a.toNat = va at *
 have hyw : IntKind.u32.wrap (vb + IntKind.u32.wrap i) = y := by rw [IntKind.wrap_u32, IntKind.wrap_u32]; exact hy
 simp only [List.take_succ_cons, List.take_zero, List.drop_succ_cons, List.drop_zero]
 iterate 12 (refine WS.step rfl (fun K hK => ?_); go_simp; refine hK _ ?_; clear hK K)
 refine WS.nil ?_
 try simp only [hyw]
 go_upto_region 2 with (fail)
 refine WS.start 8 (by kernel_rfl) (by kernel_rfl) ?_
 intro w3 hw3
 have r2 : w3.cell? ⟨E, 1 + a.toNat, none⟩ = some (.int .u32 va) := by rw [hw3]; exact q2
 have r3 : w3.cell? ⟨g, 2, none⟩ = some (.int .i64 a) := by rw [hw3]; exact q3
 have hI3 := Lib.hid (show Has g #[.int .i64 5, .int .i64 3, .int .i64 a, .int .i64 b, .int .i64 c, .int .i64 i, .bool u] 76 w3 by rw [hw3]; exact hI2.out)
 have hK3 := Lib.hid (show Kept w w3 by rw [hw3]; exact hK2.out.drew)
 have hM3 := Lib.hid (show RMacAt F E x D C ai ni ci ao no co w3 by rw [hw3]; exact hM2.out.kept (Kept.refl w2).drew)
 have r1 : w3.cell? ⟨g, 1, none⟩ = some (.int .i64 3) := hI3.out.cell 1 _ rfl
 clear hw3 q1 q2 q3 q4 q5 hI2 hK2 hM2
 simp only [List.take_succ_cons, List.take_zero, List.drop_succ_cons, List.drop_zero]
 iterate 8 (refine WS.step rfl (fun K hK => ?_); go_simp; refine hK _ ?_; clear hK K)
 refine WS.nil ?_
 have cM : w3.cell? ⟨E, 0, none⟩ = some (.pointer (some ⟨D, 0, none⟩)) := hM3.out.box.cell 0 _ rfl
 have hzw : IntKind.u8.wrap z = z := by rw [show IntKind.u8.wrap z = z % 256 by simp [IntKind.wrap, IntKind.bits, IntKind.signed]]; omega
 go_wp2_with (fail)
 rw [hz]
 refine (L _ hM3.out).mono ?_; rintro e w4 ⟨rfl, hB4, hM4⟩
 have hBf := Lib.hid ((hK3.out.but C).trans hB4)
 replace hM4 := Lib.hid hM4
 clear hM3 hK3 hI3 L r1 r2 r3 cM hB4
 go_wp2
 go_ret
 exact ⟨rfl, hBf.out, hM4.out⟩
set_option maxHeartbeats 2000000 in
theorem rmove_2 {F : Nat → Prop} {E : Nat} {x : X.St} {D C : Nat} {ai : Option Addr} {ni ci : Nat} {ao : Option Addr} {no co : Nat} {w : World} (h : RMacAt F E x D C ai ni ci ao no co w) (a b c i y t z : Int) (u : Bool) (a0 : 0 ≤ a) (a1 : a < 16) (b0 : 0 ≤ b) (b1 : b < 16)
 (y0 : 0 ≤ y) (y1 : y < 4294967296) (hy : (x.s.r b.toNat + i % 4294967296) % 4294967296 = y) (hz : x.s.r a.toNat = z) (h1 : ¬ y = 4294967236) (h2 : ¬ y = 4294967240) (W' : List Int)
 (L : ∀ w, RMacAt F E x D C ai ni ci ao no co w → Calls Tryz.prog 53 #[.pointer (some ⟨D, 0, none⟩), .int .u32 y, .int .u32 z] w fun e w' => e = .returned (.int .i64 t) ∧ But C w w' ∧ RMacAt F E ⟨W', x.s, x.pc, x.st, x.ins, x.outs⟩ D C ai ni ci ao no co w') :
 Calls Tryz.prog 31 #[.pointer (some ⟨E, 0, none⟩), .agg #[.int .i64 5, .int .i64 2, .int .i64 a, .int .i64 b, .int .i64 c, .int .i64 i, .bool u]] w fun e w' => e = .returned (.int .i64 t) ∧ But C w w' ∧ RMacAt F E ⟨W', x.s, x.pc, x.st, x.ins, x.outs⟩ D C ai ni ci ao no co w' := by
 have rb := h.ok.1 b.toNat (by omega)
 have ra := h.ok.1 a.toNat (by omega)
 go_enter Tryz.func31, Tryz.ntmps31
 go_upto_region 1 with (fail)
 generalize hw1 : w.alloc (Obj.cells _ _) = w1
 have hI : Has w.heap.size #[.int .i64 5, .int .i64 2, .int .i64 a, .int .i64 b, .int .i64 c, .int .i64 i, .bool u] 76 w1 := by rw [← hw1]; exact Has.new _ _ _
 have hK : Kept w w1 := by rw [← hw1]; exact (Kept.refl w).alloc _ _
 clear hw1
 have hM := h.kept hK
 have hEg : E < w.heap.size := h.sub E h.inE
 have hFg : ∀ k, F k → k < w.heap.size := h.sub
 have hFE : F E := h.inE
 have hFC : F C := h.inC
 clear h
 generalize hg : w.heap.size = g at *
 have cr := hM.reg b.toNat (by omega)
 have ca := hM.reg a.toNat (by omega)
 have c2 : w1.cell? ⟨g, 2, none⟩ = some (.int .i64 a) := hI.cell 2 _ rfl
 have c3 : w1.cell? ⟨g, 3, none⟩ = some (.int .i64 b) := hI.cell 3 _ rfl
 have c5 : w1.cell? ⟨g, 5, none⟩ = some (.int .i64 i) := hI.cell 5 _ rfl
 replace hI := Lib.hid hI
 replace hK := Lib.hid hK
 replace hM := Lib.hid hM
 refine WS.start 12 (by kernel_rfl) (by kernel_rfl) ?_
 intro w2 hw2
 have q1 : w2.cell? ⟨E, 1 + b.toNat, none⟩ = some (.int .u32 (x.s.r b.toNat)) := by rw [hw2]; exact cr
 have q2 : w2.cell? ⟨E, 1 + a.toNat, none⟩ = some (.int .u32 (x.s.r a.toNat)) := by rw [hw2]; exact ca
 have q3 : w2.cell? ⟨g, 2, none⟩ = some (.int .i64 a) := by rw [hw2]; exact c2
 have q4 : w2.cell? ⟨g, 3, none⟩ = some (.int .i64 b) := by rw [hw2]; exact c3
 have q5 : w2.cell? ⟨g, 5, none⟩ = some (.int .i64 i) := by rw [hw2]; exact c5
 have hI2 := Lib.hid (show Has g #[.int .i64 5, .int .i64 2, .int .i64 a, .int .i64 b, .int .i64 c, .int .i64 i, .bool u] 76 w2 by rw [hw2]; exact hI.out)
 have hK2 := Lib.hid (show Kept w w2 by rw [hw2]; exact hK.out.drew)
 have hM2 := Lib.hid (show RMacAt F E x D C ai ni ci ao no co w2 by rw [hw2]; exact hM.out.kept (Kept.refl w1).drew)
 clear hw2 cr ca c2 c3 c5 hI hK hM
 generalize x.s.r b.toNat = vb at *
 generalize x.s.r a.toNat = va at *
 have hyw : IntKind.u32.wrap (vb + IntKind.u32.wrap i) = y := by rw [IntKind.wrap_u32, IntKind.wrap_u32]; exact hy
 simp only [List.take_succ_cons, List.take_zero, List.drop_succ_cons, List.drop_zero]
 iterate 12 (refine WS.step rfl (fun K hK => ?_); go_simp; refine hK _ ?_; clear hK K)
 refine WS.nil ?_
 try simp only [hyw]
 go_upto_region 2 with (fail)
 refine WS.start 8 (by kernel_rfl) (by kernel_rfl) ?_
 intro w3 hw3
 have r2 : w3.cell? ⟨E, 1 + a.toNat, none⟩ = some (.int .u32 va) := by rw [hw3]; exact q2
 have r3 : w3.cell? ⟨g, 2, none⟩ = some (.int .i64 a) := by rw [hw3]; exact q3
 have hI3 := Lib.hid (show Has g #[.int .i64 5, .int .i64 2, .int .i64 a, .int .i64 b, .int .i64 c, .int .i64 i, .bool u] 76 w3 by rw [hw3]; exact hI2.out)
 have hK3 := Lib.hid (show Kept w w3 by rw [hw3]; exact hK2.out.drew)
 have hM3 := Lib.hid (show RMacAt F E x D C ai ni ci ao no co w3 by rw [hw3]; exact hM2.out.kept (Kept.refl w2).drew)
 have r1 : w3.cell? ⟨g, 1, none⟩ = some (.int .i64 2) := hI3.out.cell 1 _ rfl
 clear hw3 q1 q2 q3 q4 q5 hI2 hK2 hM2
 simp only [List.take_succ_cons, List.take_zero, List.drop_succ_cons, List.drop_zero]
 iterate 8 (refine WS.step rfl (fun K hK => ?_); go_simp; refine hK _ ?_; clear hK K)
 refine WS.nil ?_
 have cM : w3.cell? ⟨E, 0, none⟩ = some (.pointer (some ⟨D, 0, none⟩)) := hM3.out.box.cell 0 _ rfl
 have h1' : (y == 4294967236) = false := by simpa using h1
 have h2' : (y == 4294967240) = false := by simpa using h2
 go_wp2_with (fail)
 try rw [hz]
 refine (L _ hM3.out).mono ?_; rintro e w4 ⟨rfl, hB4, hM4⟩
 have hBf := Lib.hid ((hK3.out.but C).trans hB4)
 replace hM4 := Lib.hid hM4
 clear hM3 hK3 hI3 L r1 r2 r3 cM hB4
 go_wp2
 go_ret
 exact ⟨rfl, hBf.out, hM4.out⟩
set_option maxHeartbeats 2000000 in
theorem rmove_2h {F : Nat → Prop} {E : Nat} {x : X.St} {D C : Nat} {ai : Option Addr} {ni ci : Nat} {ao : Option Addr} {no co : Nat} {w : World} (h : RMacAt F E x D C ai ni ci ao no co w) (a b c i y z : Int) (u : Bool) (a0 : 0 ≤ a) (a1 : a < 16) (b0 : 0 ≤ b) (b1 : b < 16)
 (y0 : 0 ≤ y) (y1 : y < 4294967296) (hy : (x.s.r b.toNat + i % 4294967296) % 4294967296 = y) (h2 : y = 4294967240) :
 Calls Tryz.prog 31 #[.pointer (some ⟨E, 0, none⟩), .agg #[.int .i64 5, .int .i64 2, .int .i64 a, .int .i64 b, .int .i64 c, .int .i64 i, .bool u]] w fun e w' => e = .returned (.int .i64 1) ∧ Kept w w' := by
 have rb := h.ok.1 b.toNat (by omega)
 have ra := h.ok.1 a.toNat (by omega)
 go_enter Tryz.func31, Tryz.ntmps31
 go_upto_region 1 with (fail)
 generalize hw1 : w.alloc (Obj.cells _ _) = w1
 have hI : Has w.heap.size #[.int .i64 5, .int .i64 2, .int .i64 a, .int .i64 b, .int .i64 c, .int .i64 i, .bool u] 76 w1 := by rw [← hw1]; exact Has.new _ _ _
 have hK : Kept w w1 := by rw [← hw1]; exact (Kept.refl w).alloc _ _
 clear hw1
 have hM := h.kept hK
 have hEg : E < w.heap.size := h.sub E h.inE
 have hFg : ∀ k, F k → k < w.heap.size := h.sub
 have hFE : F E := h.inE
 have hFC : F C := h.inC
 clear h
 generalize hg : w.heap.size = g at *
 have cr := hM.reg b.toNat (by omega)
 have ca := hM.reg a.toNat (by omega)
 have c2 : w1.cell? ⟨g, 2, none⟩ = some (.int .i64 a) := hI.cell 2 _ rfl
 have c3 : w1.cell? ⟨g, 3, none⟩ = some (.int .i64 b) := hI.cell 3 _ rfl
 have c5 : w1.cell? ⟨g, 5, none⟩ = some (.int .i64 i) := hI.cell 5 _ rfl
 replace hI := Lib.hid hI
 replace hK := Lib.hid hK
 replace hM := Lib.hid hM
 refine WS.start 12 (by kernel_rfl) (by kernel_rfl) ?_
 intro w2 hw2
 have q1 : w2.cell? ⟨E, 1 + b.toNat, none⟩ = some (.int .u32 (x.s.r b.toNat)) := by rw [hw2]; exact cr
 have q2 : w2.cell? ⟨E, 1 + a.toNat, none⟩ = some (.int .u32 (x.s.r a.toNat)) := by rw [hw2]; exact ca
 have q3 : w2.cell? ⟨g, 2, none⟩ = some (.int .i64 a) := by rw [hw2]; exact c2
 have q4 : w2.cell? ⟨g, 3, none⟩ = some (.int .i64 b) := by rw [hw2]; exact c3
 have q5 : w2.cell? ⟨g, 5, none⟩ = some (.int .i64 i) := by rw [hw2]; exact c5
 have hI2 := Lib.hid (show Has g #[.int .i64 5, .int .i64 2, .int .i64 a, .int .i64 b, .int .i64 c, .int .i64 i, .bool u] 76 w2 by rw [hw2]; exact hI.out)
 have hK2 := Lib.hid (show Kept w w2 by rw [hw2]; exact hK.out.drew)
 have hM2 := Lib.hid (show RMacAt F E x D C ai ni ci ao no co w2 by rw [hw2]; exact hM.out.kept (Kept.refl w1).drew)
 clear hw2 cr ca c2 c3 c5 hI hK hM
 generalize x.s.r b.toNat = vb at *
 generalize x.s.r a.toNat = va at *
 have hyw : IntKind.u32.wrap (vb + IntKind.u32.wrap i) = y := by rw [IntKind.wrap_u32, IntKind.wrap_u32]; exact hy
 simp only [List.take_succ_cons, List.take_zero, List.drop_succ_cons, List.drop_zero]
 iterate 12 (refine WS.step rfl (fun K hK => ?_); go_simp; refine hK _ ?_; clear hK K)
 refine WS.nil ?_
 try simp only [hyw]
 go_upto_region 2 with (fail)
 refine WS.start 8 (by kernel_rfl) (by kernel_rfl) ?_
 intro w3 hw3
 have r2 : w3.cell? ⟨E, 1 + a.toNat, none⟩ = some (.int .u32 va) := by rw [hw3]; exact q2
 have r3 : w3.cell? ⟨g, 2, none⟩ = some (.int .i64 a) := by rw [hw3]; exact q3
 have hI3 := Lib.hid (show Has g #[.int .i64 5, .int .i64 2, .int .i64 a, .int .i64 b, .int .i64 c, .int .i64 i, .bool u] 76 w3 by rw [hw3]; exact hI2.out)
 have hK3 := Lib.hid (show Kept w w3 by rw [hw3]; exact hK2.out.drew)
 have hM3 := Lib.hid (show RMacAt F E x D C ai ni ci ao no co w3 by rw [hw3]; exact hM2.out.kept (Kept.refl w2).drew)
 have r1 : w3.cell? ⟨g, 1, none⟩ = some (.int .i64 2) := hI3.out.cell 1 _ rfl
 clear hw3 q1 q2 q3 q4 q5 hI2 hK2 hM2
 simp only [List.take_succ_cons, List.take_zero, List.drop_succ_cons, List.drop_zero]
 iterate 8 (refine WS.step rfl (fun K hK => ?_); go_simp; refine hK _ ?_; clear hK K)
 refine WS.nil ?_
 have cM : w3.cell? ⟨E, 0, none⟩ = some (.pointer (some ⟨D, 0, none⟩)) := hM3.out.box.cell 0 _ rfl
 subst h2
 clear hM3 hI3 r2 r3 cM
 go_wp2
 go_ret
 exact ⟨rfl, hK3.out⟩
set_option maxHeartbeats 2000000 in
theorem rmove_2o {F : Nat → Prop} {E : Nat} {x : X.St} {D C : Nat} {ai : Option Addr} {ni ci : Nat} {ao : Option Addr} {no co : Nat} {w : World} (h : RMacAt F E x D C ai ni ci ao no co w) (a b c i y z : Int) (u : Bool) (a0 : 0 ≤ a) (a1 : a < 16) (b0 : 0 ≤ b) (b1 : b < 16)
 (y0 : 0 ≤ y) (y1 : y < 4294967296) (hy : (x.s.r b.toNat + i % 4294967296) % 4294967296 = y) (hz : x.s.r a.toNat = z) (z0 : 0 ≤ z) (z1 : z < 4294967296) (h1 : y = 4294967236) (hn : x.outs.length < 1000000) :
 Calls Tryz.prog 31 #[.pointer (some ⟨E, 0, none⟩), .agg #[.int .i64 5, .int .i64 2, .int .i64 a, .int .i64 b, .int .i64 c, .int .i64 i, .bool u]] w fun e w' => e = .returned (.int .i64 0) ∧ ∃ F' ao' no' co', RMacAt F' E ⟨x.ws, x.s, x.pc, x.st, x.ins, x.outs ++ [z]⟩ D C ai ni ci ao' no' co' w' ∧ Turn F w w' ∧ ∀ k, F' k → F k ∨ w.heap.size ≤ k := by
 have rb := h.ok.1 b.toNat (by omega)
 have ra := h.ok.1 a.toNat (by omega)
 go_enter Tryz.func31, Tryz.ntmps31
 go_upto_region 1 with (fail)
 generalize hw1 : w.alloc (Obj.cells _ _) = w1
 have hI : Has w.heap.size #[.int .i64 5, .int .i64 2, .int .i64 a, .int .i64 b, .int .i64 c, .int .i64 i, .bool u] 76 w1 := by rw [← hw1]; exact Has.new _ _ _
 have hK : Kept w w1 := by rw [← hw1]; exact (Kept.refl w).alloc _ _
 clear hw1
 have hM := h.kept hK
 have hEg : E < w.heap.size := h.sub E h.inE
 have hFg : ∀ k, F k → k < w.heap.size := h.sub
 have hFE : F E := h.inE
 have hFC : F C := h.inC
 clear h
 generalize hg : w.heap.size = g at *
 have cr := hM.reg b.toNat (by omega)
 have ca := hM.reg a.toNat (by omega)
 have c2 : w1.cell? ⟨g, 2, none⟩ = some (.int .i64 a) := hI.cell 2 _ rfl
 have c3 : w1.cell? ⟨g, 3, none⟩ = some (.int .i64 b) := hI.cell 3 _ rfl
 have c5 : w1.cell? ⟨g, 5, none⟩ = some (.int .i64 i) := hI.cell 5 _ rfl
 replace hI := Lib.hid hI
 replace hK := Lib.hid hK
 replace hM := Lib.hid hM
 refine WS.start 12 (by kernel_rfl) (by kernel_rfl) ?_
 intro w2 hw2
 have q1 : w2.cell? ⟨E, 1 + b.toNat, none⟩ = some (.int .u32 (x.s.r b.toNat)) := by rw [hw2]; exact cr
 have q2 : w2.cell? ⟨E, 1 + a.toNat, none⟩ = some (.int .u32 (x.s.r a.toNat)) := by rw [hw2]; exact ca
 have q3 : w2.cell? ⟨g, 2, none⟩ = some (.int .i64 a) := by rw [hw2]; exact c2
 have q4 : w2.cell? ⟨g, 3, none⟩ = some (.int .i64 b) := by rw [hw2]; exact c3
 have q5 : w2.cell? ⟨g, 5, none⟩ = some (.int .i64 i) := by rw [hw2]; exact c5
 have hI2 := Lib.hid (show Has g #[.int .i64 5, .int .i64 2, .int .i64 a, .int .i64 b, .int .i64 c, .int .i64 i, .bool u] 76 w2 by rw [hw2]; exact hI.out)
 have hK2 := Lib.hid (show Kept w w2 by rw [hw2]; exact hK.out.drew)
 have hM2 := Lib.hid (show RMacAt F E x D C ai ni ci ao no co w2 by rw [hw2]; exact hM.out.kept (Kept.refl w1).drew)
 clear hw2 cr ca c2 c3 c5 hI hK hM
 generalize x.s.r b.toNat = vb at *
 generalize x.s.r a.toNat = va at *
 have hyw : IntKind.u32.wrap (vb + IntKind.u32.wrap i) = y := by rw [IntKind.wrap_u32, IntKind.wrap_u32]; exact hy
 simp only [List.take_succ_cons, List.take_zero, List.drop_succ_cons, List.drop_zero]
 iterate 12 (refine WS.step rfl (fun K hK => ?_); go_simp; refine hK _ ?_; clear hK K)
 refine WS.nil ?_
 try simp only [hyw]
 go_upto_region 2 with (fail)
 refine WS.start 8 (by kernel_rfl) (by kernel_rfl) ?_
 intro w3 hw3
 have r2 : w3.cell? ⟨E, 1 + a.toNat, none⟩ = some (.int .u32 va) := by rw [hw3]; exact q2
 have r3 : w3.cell? ⟨g, 2, none⟩ = some (.int .i64 a) := by rw [hw3]; exact q3
 have hI3 := Lib.hid (show Has g #[.int .i64 5, .int .i64 2, .int .i64 a, .int .i64 b, .int .i64 c, .int .i64 i, .bool u] 76 w3 by rw [hw3]; exact hI2.out)
 have hK3 := Lib.hid (show Kept w w3 by rw [hw3]; exact hK2.out.drew)
 have hM3 := Lib.hid (show RMacAt F E x D C ai ni ci ao no co w3 by rw [hw3]; exact hM2.out.kept (Kept.refl w2).drew)
 have r1 : w3.cell? ⟨g, 1, none⟩ = some (.int .i64 2) := hI3.out.cell 1 _ rfl
 clear hw3 q1 q2 q3 q4 q5 hI2 hK2 hM2
 simp only [List.take_succ_cons, List.take_zero, List.drop_succ_cons, List.drop_zero]
 iterate 8 (refine WS.step rfl (fun K hK => ?_); go_simp; refine hK _ ?_; clear hK K)
 refine WS.nil ?_
 have cM : w3.cell? ⟨E, 0, none⟩ = some (.pointer (some ⟨D, 0, none⟩)) := hM3.out.box.cell 0 _ rfl
 subst h1
 subst hz
 go_upto_region 25 with (fail)
 have hc : w3.cell? ⟨E, 25, none⟩ = some (.slice ao no co) := hM3.out.box.cell 25 _ rfl
 have hfr := hM3.out.box.free 25
 have hA := Lib.hid ((Kept.refl w3).alloc #[Value.int .u32 va] 43)
 have hY := Lib.hid (Ws.sole (Has.new #[Value.int .u32 va] 43 w3) z0 z1)
 have hO := Lib.hid (hM3.out.out.to (w' := w3.alloc (.cells #[Value.int .u32 va] 43)) fun ad e => hA.out.below.block _ (hM3.out.sub _ (hM3.out.outF ad e).1))
 have hno := hM3.out.out.len
 have hsz3 : w.heap.size ≤ w3.heap.size := hK3.out.size
 go_wp2_with (with_reducible refine append_out (o := ⟨some 139, _, _, _, _, _⟩) rfl (.tmp 136) (.tmp 138) rfl ao no co x.outs rfl hO.out ⟨w3.heap.size, 0, none⟩ 1 1 [va] rfl hY.out (by omega) (by omega) ?_; intro A' cap' w5 hO5 hG5 hN5; have hD := hM3.out.outed hA.out hG5 hO5 hN5 z0 z1; have hc5 : w5.cell? ⟨E, 25, none⟩ = some (.slice ao no co) := hD.1.cell 25 _ rfl; have hf5 := hD.1.free 25; replace hD := Lib.hid hD.2; clear hc hfr hO hY hA hO5 hG5 hN5)
 go_ret
 obtain ⟨F', q1, q2, q3⟩ := hD.out
 exact ⟨rfl, F', A', _, cap', q1, (hK3.out.turn F).trans q2, fun k hk => by rcases q3 k hk with h1 | h1; exact Or.inl h1; exact Or.inr (by omega)⟩
set_option maxHeartbeats 400000 in
theorem rone_any (c : Bool) (w : World) :
 Calls Tryz.prog 79 #[.bool c] w fun e w' => e = .returned (.int .i64 (W.one c)) ∧ w = w' := by
 cases c
 all_goals
  go_enter Tryz.func79, Tryz.ntmps79
  go_wp2
  go_ret
  exact ret1 rfl
set_option maxHeartbeats 400000 in
theorem rout_any (x : Int) (w : World) :
 Calls Tryz.prog 80 #[.int .i64 x] w fun e w' => e = .returned (.bool (!W.inS x)) ∧ w = w' := by
 by_cases h : x < -2147483648
 · go_enter Tryz.func80, Tryz.ntmps80
   go_wp2
   go_ret
   exact ret1b (by simp [W.inS]; omega)
 · go_enter Tryz.func80, Tryz.ntmps80
   go_wp2
   go_ret
   exact ret1b (by rw [Bool.eq_iff_iff]; simp [W.inS]; omega)
set_option maxHeartbeats 400000 in
theorem rsigned_any (a : Int) (h0 : 0 ≤ a) (h1 : a < 4294967296) (w : World) :
 Calls Tryz.prog 81 #[.int .u32 a] w fun e w' => e = .returned (.int .i64 (W.sgn a)) ∧ w = w' := by
 by_cases h : a < 2147483648
 all_goals
  go_enter Tryz.func81, Tryz.ntmps81
  go_wp2
  go_ret
  exact ret1 (by unfold W.sgn; split <;> omega)
set_option maxHeartbeats 400000 in
theorem radd_any (a b : Int) (c : Bool) (h0 : 0 ≤ a) (h1 : a < 4294967296) (h2 : 0 ≤ b) (h3 : b < 4294967296) (w : World) :
 Calls Tryz.prog 57 #[.int .u32 a, .int .u32 b, .bool c] w fun e w' =>
  e = .returned (.tuple #[.int .u32 (W.low (a + b + W.one c)), .bool (W.over (a + b + W.one c)), .bool (!W.inS (W.sgn a + W.sgn b + W.one c))]) ∧ w = w' := by
 have o1 := W.one_lo c
 have o2 := W.one_hi c
 have s1 := W.sgn_lo a h0
 have s2 := W.sgn_hi a h1
 have s3 := W.sgn_lo b h2
 have s4 := W.sgn_hi b h3
 go_enter Tryz.func57, Tryz.ntmps57
 go_wp2_with (first
  | (go_at_call 79; refine (rone_any _ _).mono ?_; rintro e w' ⟨rfl, rfl⟩)
  | (go_at_call 81; refine (rsigned_any _ (by omega) (by omega) _).mono ?_; rintro e w' ⟨rfl, rfl⟩)
  | (go_at_call 80; refine (rout_any _ _).mono ?_; rintro e w' ⟨rfl, rfl⟩))
 go_ret3
 exact ret3 (by unfold W.low; omega) (by rw [Bool.eq_iff_iff]; simp [W.over]; omega) rfl
set_option maxHeartbeats 400000 in
theorem rsub_any (a b : Int) (c : Bool) (h0 : 0 ≤ a) (h1 : a < 4294967296) (h2 : 0 ≤ b) (h3 : b < 4294967296) (w : World) :
 Calls Tryz.prog 58 #[.int .u32 a, .int .u32 b, .bool c] w fun e w' =>
  e = .returned (.tuple #[.int .u32 (W.low (a - b - W.one c)), .bool (W.neg (a - b - W.one c)), .bool (!W.inS (W.sgn a - W.sgn b - W.one c))]) ∧ w = w' := by
 have o1 := W.one_lo c
 have o2 := W.one_hi c
 have s1 := W.sgn_lo a h0
 have s2 := W.sgn_hi a h1
 have s3 := W.sgn_lo b h2
 have s4 := W.sgn_hi b h3
 go_enter Tryz.func58, Tryz.ntmps58
 go_wp2_with (first
  | (go_at_call 79; refine (rone_any _ _).mono ?_; rintro e w' ⟨rfl, rfl⟩)
  | (go_at_call 81; refine (rsigned_any _ (by omega) (by omega) _).mono ?_; rintro e w' ⟨rfl, rfl⟩)
  | (go_at_call 80; refine (rout_any _ _).mono ?_; rintro e w' ⟨rfl, rfl⟩))
 go_ret3
 exact ret3 (by unfold W.low; omega) rfl rfl
set_option maxHeartbeats 400000 in
theorem rmul_any (a b : Int) (u : Bool) (h0 : 0 ≤ a) (h1 : a < 4294967296) (h2 : 0 ≤ b) (h3 : b < 4294967296) (w : World) :
 Calls Tryz.prog 59 #[.int .u32 a, .int .u32 b, .bool u] w fun e w' =>
  e = .returned (.tuple #[.int .u32 (W.low (W.prod u a b)), .int .u32 (W.low (W.prod u a b / 4294967296))]) ∧ w = w' := by
 have p1 := W.mul_lo (a % 65536) (b % 65536) (by omega) (by omega)
 have p2 := W.mul_hi (a % 65536) (b % 65536) 65535 65535 (by omega) (by omega) (by omega) (by omega)
 have q1 := W.mul_lo (a % 65536) (b / 65536) (by omega) (by omega)
 have q2 := W.mul_hi (a % 65536) (b / 65536) 65535 65535 (by omega) (by omega) (by omega) (by omega)
 have r1 := W.mul_lo (a / 65536) (b % 65536) (by omega) (by omega)
 have r2 := W.mul_hi (a / 65536) (b % 65536) 65535 65535 (by omega) (by omega) (by omega) (by omega)
 have t1 := W.mul_lo (a / 65536) (b / 65536) (by omega) (by omega)
 have t2 := W.mul_hi (a / 65536) (b / 65536) 65535 65535 (by omega) (by omega) (by omega) (by omega)
 cases u
 · by_cases ha : W.sgn a < 0
   all_goals by_cases hb : W.sgn b < 0
   all_goals
    go_enter Tryz.func59, Tryz.ntmps59
    go_wp2_with (first
     | (go_at_call 81; refine (rsigned_any _ (by omega) (by omega) _).mono ?_; rintro e w' ⟨rfl, rfl⟩))
    go_ret2
   · have e1 := W.sgn_of_lt a h0 h1 ha
     have e2 := W.sgn_of_lt b h2 h3 hb
     exact ret2i (W.half_low _ _ _) (by rw [W.half_high]; exact W.high_of a b b a (by rw [if_neg e1]) (by rw [if_neg e2]))
   · have e1 := W.sgn_of_lt a h0 h1 ha
     have e2 := W.sgn_of_ge b hb h3
     exact ret2i (W.half_low _ _ _) (by rw [W.half_high]; have hh := W.high_of a b b 0 (by rw [if_neg e1]) (by rw [if_pos e2]); simp only [Int.sub_zero] at hh; exact hh)
   · have e1 := W.sgn_of_ge a ha h1
     have e2 := W.sgn_of_lt b h2 h3 hb
     exact ret2i (W.half_low _ _ _) (by rw [W.half_high]; have hh := W.high_of a b 0 a (by rw [if_pos e1]) (by rw [if_neg e2]); simp only [Int.sub_zero] at hh; exact hh)
   · have e1 := W.sgn_of_ge a ha h1
     have e2 := W.sgn_of_ge b hb h3
     exact ret2i (W.half_low _ _ _) (by rw [W.half_high]; have hh := W.high_of a b 0 0 (by rw [if_pos e1]) (by rw [if_pos e2]); simp only [Int.sub_zero] at hh; exact hh)
 · go_enter Tryz.func59, Tryz.ntmps59
   go_wp2_with (first
    | (go_at_call 81; refine (rsigned_any _ (by omega) (by omega) _).mono ?_; rintro e w' ⟨rfl, rfl⟩))
   go_ret2
   exact ret2i (W.half_low _ _ _) (by rw [W.half_high]; simp only [W.prod, W.low, if_true]; omega)
set_option maxHeartbeats 400000 in
theorem rdiv_no (a b : Int) (h0 : 0 ≤ a) (h1 : a < 4294967296) (h2 : 0 ≤ b) (h3 : b < 4294967296) (hb : W.sgn b ≤ 0) (w : World) :
 Calls Tryz.prog 60 #[.int .u32 a, .int .u32 b] w fun e w' =>
  e = .returned (.tuple #[.int .u32 0, .int .u32 0, .bool false]) ∧ w = w' := by
 go_enter Tryz.func60, Tryz.ntmps60
 go_wp2_with (first
  | (go_at_call 81; refine (rsigned_any _ (by omega) (by omega) _).mono ?_; rintro e w' ⟨rfl, rfl⟩))
 go_ret3
 exact ret3i rfl rfl rfl
set_option maxHeartbeats 400000 in
theorem rdiv_yes (a b : Int) (h0 : 0 ≤ a) (h1 : a < 4294967296) (h2 : 0 ≤ b) (h3 : b < 4294967296) (hb : 0 < W.sgn b) (w : World) :
 Calls Tryz.prog 60 #[.int .u32 a, .int .u32 b] w fun e w' =>
  e = .returned (.tuple #[.int .u32 (W.low (W.sgn a / W.sgn b)), .int .u32 (W.low (W.sgn a % W.sgn b)), .bool true]) ∧ w = w' := by
 have s1 := W.sgn_lo a h0
 have s2 := W.sgn_hi a h1
 have s4 := W.sgn_hi b h3
 have hb1 : (W.sgn b == 0) = false := by simp; omega
 go_enter Tryz.func60, Tryz.ntmps60
 go_wp2_with (first
  | (go_at_call 81; refine (rsigned_any _ (by omega) (by omega) _).mono ?_; rintro e w' ⟨rfl, rfl⟩))
 all_goals go_ret3
 · rename_i hneg
   exact ret3i (by rw [W.wrap64_low3, (W.quo_neg _ _ hb hneg).1]) (by rw [W.wrap64_low, (W.quo_neg _ _ hb hneg).2]) rfl
 · rename_i hpos
   exact ret3i (by rw [W.wrap64_low2, (W.quo_pos _ _ hb (by omega)).1]) (by rw [(W.quo_pos _ _ hb (by omega)).2]; rfl) rfl
set_option maxHeartbeats 1000000 in
theorem rshift_at (k a n : Int) (h0 : 0 ≤ a) (h1 : a < 4294967296) (h2 : 0 ≤ n) (h3 : n < 4294967296) (w : World)
 (c1 c2 c3 : Bool) (k1 : (k == 1) = c1) (k2 : (k == 2) = c2) (k3 : (k == 3) = c3) :
 Calls Tryz.prog 56 #[.int .i64 k, .int .u32 a, .int .u32 n] w fun e w' =>
  e = .returned (.int .u32 (W.shift k a n)) ∧ w = w' := by
 have Hz := Lib.hid (W.shiftN_zero k a h0 h1)
 go_enter Tryz.func56, Tryz.ntmps56
 go_wp2
 go_loop [1, 7] (fun x i => ∃ j : Nat, (j : Int) ≤ n % 32 ∧ i = .int .i64 j ∧ x = .int .u32 (W.shiftN k a j)) (fun _ i => (n % 32 - intOf i).toNat)
 case atStart => exact ⟨0, by omega, rfl, by rw [Hz.out]⟩
 case round =>
  obtain ⟨j, hj, rfl, rfl⟩ := hrel
  have b := W.shiftN_in k a j (by omega) h0 h1
  have b0 := b.1
  have b1 := b.2
  clear b
  by_cases hlt : (j : Int) < n % 32
  · have Hs := Lib.hid (W.shiftN_step k a j (by omega) h0 h1)
    generalize W.shiftN k a j = s at *
    go_wp2
    all_goals
     go_round
     case rel => exact ⟨j + 1, by omega, by go_num, by rw [← Hs.out]; first | rw [← W.step1 k s (k1.trans ‹_›)] | rw [← W.step2 k s (k2.trans ‹_›)] | rw [← W.step3 k s (k3.trans ‹_›)] | rw [← W.step4 k s (k1.trans ‹_›) (k2.trans ‹_›) (k3.trans ‹_›)]⟩
     case measure => simp [intOf]; omega
  · go_wp2
    go_ret
    exact ret1 (by rw [W.shift]; congr 1; omega)
theorem rshift_any (k a n : Int) (h0 : 0 ≤ a) (h1 : a < 4294967296) (h2 : 0 ≤ n) (h3 : n < 4294967296) (w : World) :
 Calls Tryz.prog 56 #[.int .i64 k, .int .u32 a, .int .u32 n] w fun e w' =>
  e = .returned (.int .u32 (W.shift k a n)) ∧ w = w' := rshift_at k a n h0 h1 h2 h3 w _ _ _ rfl rfl rfl
set_option maxRecDepth 100000 in
set_option maxHeartbeats 2000000 in
theorem rdo_1_0f (s : A.Regs) (a b c i bv cv X : Int) (ha0 : 0 ≤ a) (ha1 : a < 16) (hb0 : 0 ≤ b) (hb1 : b < 16) (hc0 : 0 ≤ c) (hc1 : c < 16) (b0 : 0 ≤ bv) (b1 : bv < 4294967296) (n0 : 0 ≤ cv) (n1 : cv < 4294967296) (hbv : s.r b.toNat = bv) (hcv : s.r c.toNat = cv) (hx0 : 0 ≤ X) (hx1 : X < 4294967296) (w : World)
 (HM : Hid (∀ w, Calls Tryz.prog 54 #[.agg #[.int .i64 1, .int .i64 0, .int .i64 a, .int .i64 b, .int .i64 c, .int .i64 i, .bool false]] w fun e w' => e = .returned (.bool true) ∧ Kept w w'))
 (HE : Hid (cv = X)) :
 Calls Tryz.prog 33 #[.agg (A.cells s), .agg #[.int .i64 1, .int .i64 0, .int .i64 a, .int .i64 b, .int .i64 c, .int .i64 i, .bool false]] w fun e w' => e = .returned (.tuple #[.agg (A.cells (A.show' (A.set (s) a.toNat X) X)), .int .i64 0]) ∧ Kept w w' := by
 go_enter Tryz.func33, Tryz.ntmps33
 go_wp2_with fail
 refine (HM.out _).mono ?_; rintro e w2 ⟨rfl, hK2⟩
 have hX : Has (w.heap.size + 2) (A.cells A.none') 48 w2 := (Has.new2 _ _ _ _ _).kept hK2
 have hR : Has w.heap.size (A.cells s) 48 w2 := (((Has.new _ _ _).alloc _).alloc _).kept hK2
 have hI := ((Has.new1 _ _ _ _).alloc _).kept hK2
 have hK := ((((Kept.refl w).alloc _ _).alloc _ _).alloc _ _).trans hK2
 have hl := hX.lt
 clear hK2
 have q0 := hI.cell 0 _ rfl
 have q3 := hI.cell 3 _ rfl
 have q4 := hI.cell 4 _ rfl
 have q5 := hI.cell 5 _ rfl
 have qb := hR.cell b.toNat _ (A.cell_r s b.toNat (by omega))
 have qc := hR.cell c.toNat _ (A.cell_r s c.toNat (by omega))
 rw [hbv] at qb
 rw [hcv] at qc
 replace hX := Lib.hid hX
 replace hR := Lib.hid hR
 replace hI := Lib.hid hI
 replace hK := Lib.hid hK
 go_upto_region 14 with (first
  | (with_reducible refine load_has (o := ⟨some 48, _, _, _, _, _⟩) rfl 48 _ rfl _ rfl hR.out Tryz.underlying48 rfl (A.info25 _) ?_)
  | (with_reducible refine store_last (o := ⟨none, Op.store 48 (.tmp 9) _, _, _, _, _⟩) rfl 48 _ _ rfl _ _ rfl rfl rfl (A.info25 _) (by kernel_rfl) (A.one_cells _) ?_))
 clear q0 q3 q4 q5 qb qc
 replace hX := hX.out.alloc (.cells (A.cells s) 48)
 replace hR := hR.out.alloc (.cells (A.cells s) 48)
 replace hI := hI.out.alloc (.cells (A.cells s) 48)
 replace hK := hK.out.alloc (A.cells s) 48
 have hT := Has.new (A.cells s) 48 w2
 generalize w2.heap.size = B9 at *
 generalize w2.alloc _ = w3 at *
 have q0 := hI.cell 0 _ rfl
 have q1 := hI.cell 1 _ rfl
 have q6 := hI.cell 6 _ rfl
 have qh := hR.cell 16 _ (A.cell_h s)
 have qq := hR.cell 19 _ (A.cell_c s)
 have t16 := hT.cell 16 _ (A.cell_h s)
 have t19 := hT.cell 19 _ (A.cell_c s)
 have t20 := hT.cell 20 _ (A.cell_v s)
 have f16 := hT.free 16
 have f19 := hT.free 19
 have f20 := hT.free 20
 replace hX := Lib.hid hX
 replace hR := Lib.hid hR
 replace hI := Lib.hid hI
 replace hK := Lib.hid hK
 replace hT := Lib.hid hT
 go_upto_region 38 with (fail)
 rw [HE.out]
 clear q0 q1 q6 qh qq t16 t19 t20 f16 f19 f20
 have q2 := hI.out.cell 2 _ rfl
 have ta := hT.out.cell a.toNat _ (A.cell_r (s) a.toNat (by omega))
 have fa := hT.out.free a.toNat
 go_upto_region 39 with (fail)
 clear q2 ta fa
 replace hT := Lib.hid (hT.out.set a.toNat (.int .u32 X))
 rw [A.set_r (s) a.toNat (by omega) X] at hT
 replace hX := Lib.hid (hX.out.other (p := ⟨B9, a.toNat, none⟩) (Nat.ne_of_lt hl) (.int .u32 X))
 replace hK := Lib.hid (hK.out.setCell (p := ⟨B9, a.toNat, none⟩) (by show w.heap.size ≤ B9; omega) (.int .u32 X))
 clear hI hR
 generalize World.setCell _ _ _ = w5 at *
 go_wp2_with (first
  | (with_reducible refine load_has (o := ⟨some 194, _, _, _, _, _⟩) rfl 48 _ rfl _ rfl hT.out Tryz.underlying48 rfl (A.info25 _) ?_)
  | (with_reducible refine store_has (o := ⟨none, Op.store 48 (.tmp 4) _, _, _, _, _⟩) rfl 48 _ _ rfl _ _ rfl rfl hX.out (A.info25 _) (by kernel_rfl) (A.one_cells _) ?_)
  | (go_at_call 50; (refine (rshow_any _ X hx0 hx1 _).mono ?_; rintro e w7 ⟨rfl, hK7⟩); (replace hX := Lib.hid (hX.out.kept hK7)); (replace hK := Lib.hid (hK.out.trans hK7)); clear hK7))
 exact bodyPost_ret (results_has2 rfl (w.heap.size + 2) rfl (hX.out.row _) Tryz.underlying48 rfl (A.info25 _)) rfl ⟨rfl, hK.out.row (by omega) _⟩
set_option maxRecDepth 100000 in
set_option maxHeartbeats 2000000 in
theorem rdo_1_0t (s : A.Regs) (a b c i bv cv X : Int) (ha0 : 0 ≤ a) (ha1 : a < 16) (hb0 : 0 ≤ b) (hb1 : b < 16) (hc0 : 0 ≤ c) (hc1 : c < 16) (b0 : 0 ≤ bv) (b1 : bv < 4294967296) (n0 : 0 ≤ cv) (n1 : cv < 4294967296) (hbv : s.r b.toNat = bv) (hcv : s.r c.toNat = cv) (hx0 : 0 ≤ X) (hx1 : X < 4294967296) (w : World)
 (HM : Hid (∀ w, Calls Tryz.prog 54 #[.agg #[.int .i64 1, .int .i64 0, .int .i64 a, .int .i64 b, .int .i64 c, .int .i64 i, .bool true]] w fun e w' => e = .returned (.bool true) ∧ Kept w w'))
 (HE : Hid (cv * 65536 % 4294967296 = X)) :
 Calls Tryz.prog 33 #[.agg (A.cells s), .agg #[.int .i64 1, .int .i64 0, .int .i64 a, .int .i64 b, .int .i64 c, .int .i64 i, .bool true]] w fun e w' => e = .returned (.tuple #[.agg (A.cells (A.show' (A.set (s) a.toNat X) X)), .int .i64 0]) ∧ Kept w w' := by
 go_enter Tryz.func33, Tryz.ntmps33
 go_wp2_with fail
 refine (HM.out _).mono ?_; rintro e w2 ⟨rfl, hK2⟩
 have hX : Has (w.heap.size + 2) (A.cells A.none') 48 w2 := (Has.new2 _ _ _ _ _).kept hK2
 have hR : Has w.heap.size (A.cells s) 48 w2 := (((Has.new _ _ _).alloc _).alloc _).kept hK2
 have hI := ((Has.new1 _ _ _ _).alloc _).kept hK2
 have hK := ((((Kept.refl w).alloc _ _).alloc _ _).alloc _ _).trans hK2
 have hl := hX.lt
 clear hK2
 have q0 := hI.cell 0 _ rfl
 have q3 := hI.cell 3 _ rfl
 have q4 := hI.cell 4 _ rfl
 have q5 := hI.cell 5 _ rfl
 have qb := hR.cell b.toNat _ (A.cell_r s b.toNat (by omega))
 have qc := hR.cell c.toNat _ (A.cell_r s c.toNat (by omega))
 rw [hbv] at qb
 rw [hcv] at qc
 replace hX := Lib.hid hX
 replace hR := Lib.hid hR
 replace hI := Lib.hid hI
 replace hK := Lib.hid hK
 go_upto_region 14 with (first
  | (with_reducible refine load_has (o := ⟨some 48, _, _, _, _, _⟩) rfl 48 _ rfl _ rfl hR.out Tryz.underlying48 rfl (A.info25 _) ?_)
  | (with_reducible refine store_last (o := ⟨none, Op.store 48 (.tmp 9) _, _, _, _, _⟩) rfl 48 _ _ rfl _ _ rfl rfl rfl (A.info25 _) (by kernel_rfl) (A.one_cells _) ?_))
 clear q0 q3 q4 q5 qb qc
 replace hX := hX.out.alloc (.cells (A.cells s) 48)
 replace hR := hR.out.alloc (.cells (A.cells s) 48)
 replace hI := hI.out.alloc (.cells (A.cells s) 48)
 replace hK := hK.out.alloc (A.cells s) 48
 have hT := Has.new (A.cells s) 48 w2
 generalize w2.heap.size = B9 at *
 generalize w2.alloc _ = w3 at *
 have q0 := hI.cell 0 _ rfl
 have q1 := hI.cell 1 _ rfl
 have q6 := hI.cell 6 _ rfl
 have qh := hR.cell 16 _ (A.cell_h s)
 have qq := hR.cell 19 _ (A.cell_c s)
 have t16 := hT.cell 16 _ (A.cell_h s)
 have t19 := hT.cell 19 _ (A.cell_c s)
 have t20 := hT.cell 20 _ (A.cell_v s)
 have f16 := hT.free 16
 have f19 := hT.free 19
 have f20 := hT.free 20
 replace hX := Lib.hid hX
 replace hR := Lib.hid hR
 replace hI := Lib.hid hI
 replace hK := Lib.hid hK
 replace hT := Lib.hid hT
 go_upto_region 38 with (fail)
 rw [HE.out]
 clear q0 q1 q6 qh qq t16 t19 t20 f16 f19 f20
 have q2 := hI.out.cell 2 _ rfl
 have ta := hT.out.cell a.toNat _ (A.cell_r (s) a.toNat (by omega))
 have fa := hT.out.free a.toNat
 go_upto_region 39 with (fail)
 clear q2 ta fa
 replace hT := Lib.hid (hT.out.set a.toNat (.int .u32 X))
 rw [A.set_r (s) a.toNat (by omega) X] at hT
 replace hX := Lib.hid (hX.out.other (p := ⟨B9, a.toNat, none⟩) (Nat.ne_of_lt hl) (.int .u32 X))
 replace hK := Lib.hid (hK.out.setCell (p := ⟨B9, a.toNat, none⟩) (by show w.heap.size ≤ B9; omega) (.int .u32 X))
 clear hI hR
 generalize World.setCell _ _ _ = w5 at *
 go_wp2_with (first
  | (with_reducible refine load_has (o := ⟨some 194, _, _, _, _, _⟩) rfl 48 _ rfl _ rfl hT.out Tryz.underlying48 rfl (A.info25 _) ?_)
  | (with_reducible refine store_has (o := ⟨none, Op.store 48 (.tmp 4) _, _, _, _, _⟩) rfl 48 _ _ rfl _ _ rfl rfl hX.out (A.info25 _) (by kernel_rfl) (A.one_cells _) ?_)
  | (go_at_call 50; (refine (rshow_any _ X hx0 hx1 _).mono ?_; rintro e w7 ⟨rfl, hK7⟩); (replace hX := Lib.hid (hX.out.kept hK7)); (replace hK := Lib.hid (hK.out.trans hK7)); clear hK7))
 exact bodyPost_ret (results_has2 rfl (w.heap.size + 2) rfl (hX.out.row _) Tryz.underlying48 rfl (A.info25 _)) rfl ⟨rfl, hK.out.row (by omega) _⟩
set_option maxRecDepth 100000 in
set_option maxHeartbeats 2000000 in
theorem rdo_1_1 (s : A.Regs) (a b c i bv cv X : Int) (u : Bool) (ha0 : 0 ≤ a) (ha1 : a < 16) (hb0 : 0 ≤ b) (hb1 : b < 16) (hc0 : 0 ≤ c) (hc1 : c < 16) (b0 : 0 ≤ bv) (b1 : bv < 4294967296) (n0 : 0 ≤ cv) (n1 : cv < 4294967296) (hbv : s.r b.toNat = bv) (hcv : s.r c.toNat = cv) (hx0 : 0 ≤ X) (hx1 : X < 4294967296) (w : World)
 (HM : Hid (∀ w, Calls Tryz.prog 54 #[.agg #[.int .i64 1, .int .i64 1, .int .i64 a, .int .i64 b, .int .i64 c, .int .i64 i, .bool u]] w fun e w' => e = .returned (.bool true) ∧ Kept w w'))
 (HC : Hid (∀ w, Calls Tryz.prog 56 #[.int .i64 1, .int .u32 bv, .int .u32 cv] w fun e w' => e = .returned (.int .u32 X) ∧ w = w')) :
 Calls Tryz.prog 33 #[.agg (A.cells s), .agg #[.int .i64 1, .int .i64 1, .int .i64 a, .int .i64 b, .int .i64 c, .int .i64 i, .bool u]] w fun e w' => e = .returned (.tuple #[.agg (A.cells (A.show' (A.set (s) a.toNat X) X)), .int .i64 0]) ∧ Kept w w' := by
 go_enter Tryz.func33, Tryz.ntmps33
 go_wp2_with fail
 refine (HM.out _).mono ?_; rintro e w2 ⟨rfl, hK2⟩
 have hX : Has (w.heap.size + 2) (A.cells A.none') 48 w2 := (Has.new2 _ _ _ _ _).kept hK2
 have hR : Has w.heap.size (A.cells s) 48 w2 := (((Has.new _ _ _).alloc _).alloc _).kept hK2
 have hI := ((Has.new1 _ _ _ _).alloc _).kept hK2
 have hK := ((((Kept.refl w).alloc _ _).alloc _ _).alloc _ _).trans hK2
 have hl := hX.lt
 clear hK2
 have q0 := hI.cell 0 _ rfl
 have q3 := hI.cell 3 _ rfl
 have q4 := hI.cell 4 _ rfl
 have q5 := hI.cell 5 _ rfl
 have qb := hR.cell b.toNat _ (A.cell_r s b.toNat (by omega))
 have qc := hR.cell c.toNat _ (A.cell_r s c.toNat (by omega))
 rw [hbv] at qb
 rw [hcv] at qc
 replace hX := Lib.hid hX
 replace hR := Lib.hid hR
 replace hI := Lib.hid hI
 replace hK := Lib.hid hK
 go_upto_region 14 with (first
  | (with_reducible refine load_has (o := ⟨some 48, _, _, _, _, _⟩) rfl 48 _ rfl _ rfl hR.out Tryz.underlying48 rfl (A.info25 _) ?_)
  | (with_reducible refine store_last (o := ⟨none, Op.store 48 (.tmp 9) _, _, _, _, _⟩) rfl 48 _ _ rfl _ _ rfl rfl rfl (A.info25 _) (by kernel_rfl) (A.one_cells _) ?_))
 clear q0 q3 q4 q5 qb qc
 replace hX := hX.out.alloc (.cells (A.cells s) 48)
 replace hR := hR.out.alloc (.cells (A.cells s) 48)
 replace hI := hI.out.alloc (.cells (A.cells s) 48)
 replace hK := hK.out.alloc (A.cells s) 48
 have hT := Has.new (A.cells s) 48 w2
 generalize w2.heap.size = B9 at *
 generalize w2.alloc _ = w3 at *
 have q0 := hI.cell 0 _ rfl
 have q1 := hI.cell 1 _ rfl
 have q6 := hI.cell 6 _ rfl
 have qh := hR.cell 16 _ (A.cell_h s)
 have qq := hR.cell 19 _ (A.cell_c s)
 have t16 := hT.cell 16 _ (A.cell_h s)
 have t19 := hT.cell 19 _ (A.cell_c s)
 have t20 := hT.cell 20 _ (A.cell_v s)
 have f16 := hT.free 16
 have f19 := hT.free 19
 have f20 := hT.free 20
 replace hX := Lib.hid hX
 replace hR := Lib.hid hR
 replace hI := Lib.hid hI
 replace hK := Lib.hid hK
 replace hT := Lib.hid hT
 go_upto_region 38 with (go_at_call 56; refine (HC.out _).mono ?_; rintro e w4 ⟨rfl, rfl⟩)
 clear q0 q1 q6 qh qq t16 t19 t20 f16 f19 f20
 have q2 := hI.out.cell 2 _ rfl
 have ta := hT.out.cell a.toNat _ (A.cell_r (s) a.toNat (by omega))
 have fa := hT.out.free a.toNat
 go_upto_region 39 with (fail)
 clear q2 ta fa
 replace hT := Lib.hid (hT.out.set a.toNat (.int .u32 X))
 rw [A.set_r (s) a.toNat (by omega) X] at hT
 replace hX := Lib.hid (hX.out.other (p := ⟨B9, a.toNat, none⟩) (Nat.ne_of_lt hl) (.int .u32 X))
 replace hK := Lib.hid (hK.out.setCell (p := ⟨B9, a.toNat, none⟩) (by show w.heap.size ≤ B9; omega) (.int .u32 X))
 clear hI hR
 generalize World.setCell _ _ _ = w5 at *
 go_wp2_with (first
  | (with_reducible refine load_has (o := ⟨some 194, _, _, _, _, _⟩) rfl 48 _ rfl _ rfl hT.out Tryz.underlying48 rfl (A.info25 _) ?_)
  | (with_reducible refine store_has (o := ⟨none, Op.store 48 (.tmp 4) _, _, _, _, _⟩) rfl 48 _ _ rfl _ _ rfl rfl hX.out (A.info25 _) (by kernel_rfl) (A.one_cells _) ?_)
  | (go_at_call 50; (refine (rshow_any _ X hx0 hx1 _).mono ?_; rintro e w7 ⟨rfl, hK7⟩); (replace hX := Lib.hid (hX.out.kept hK7)); (replace hK := Lib.hid (hK.out.trans hK7)); clear hK7))
 exact bodyPost_ret (results_has2 rfl (w.heap.size + 2) rfl (hX.out.row _) Tryz.underlying48 rfl (A.info25 _)) rfl ⟨rfl, hK.out.row (by omega) _⟩
set_option maxRecDepth 100000 in
set_option maxHeartbeats 2000000 in
theorem rdo_1_2 (s : A.Regs) (a b c i bv cv X : Int) (u : Bool) (ha0 : 0 ≤ a) (ha1 : a < 16) (hb0 : 0 ≤ b) (hb1 : b < 16) (hc0 : 0 ≤ c) (hc1 : c < 16) (b0 : 0 ≤ bv) (b1 : bv < 4294967296) (n0 : 0 ≤ cv) (n1 : cv < 4294967296) (hbv : s.r b.toNat = bv) (hcv : s.r c.toNat = cv) (hx0 : 0 ≤ X) (hx1 : X < 4294967296) (w : World)
 (HM : Hid (∀ w, Calls Tryz.prog 54 #[.agg #[.int .i64 1, .int .i64 2, .int .i64 a, .int .i64 b, .int .i64 c, .int .i64 i, .bool u]] w fun e w' => e = .returned (.bool true) ∧ Kept w w'))
 (HC : Hid (∀ w, Calls Tryz.prog 56 #[.int .i64 2, .int .u32 bv, .int .u32 cv] w fun e w' => e = .returned (.int .u32 X) ∧ w = w')) :
 Calls Tryz.prog 33 #[.agg (A.cells s), .agg #[.int .i64 1, .int .i64 2, .int .i64 a, .int .i64 b, .int .i64 c, .int .i64 i, .bool u]] w fun e w' => e = .returned (.tuple #[.agg (A.cells (A.show' (A.set (s) a.toNat X) X)), .int .i64 0]) ∧ Kept w w' := by
 go_enter Tryz.func33, Tryz.ntmps33
 go_wp2_with fail
 refine (HM.out _).mono ?_; rintro e w2 ⟨rfl, hK2⟩
 have hX : Has (w.heap.size + 2) (A.cells A.none') 48 w2 := (Has.new2 _ _ _ _ _).kept hK2
 have hR : Has w.heap.size (A.cells s) 48 w2 := (((Has.new _ _ _).alloc _).alloc _).kept hK2
 have hI := ((Has.new1 _ _ _ _).alloc _).kept hK2
 have hK := ((((Kept.refl w).alloc _ _).alloc _ _).alloc _ _).trans hK2
 have hl := hX.lt
 clear hK2
 have q0 := hI.cell 0 _ rfl
 have q3 := hI.cell 3 _ rfl
 have q4 := hI.cell 4 _ rfl
 have q5 := hI.cell 5 _ rfl
 have qb := hR.cell b.toNat _ (A.cell_r s b.toNat (by omega))
 have qc := hR.cell c.toNat _ (A.cell_r s c.toNat (by omega))
 rw [hbv] at qb
 rw [hcv] at qc
 replace hX := Lib.hid hX
 replace hR := Lib.hid hR
 replace hI := Lib.hid hI
 replace hK := Lib.hid hK
 go_upto_region 14 with (first
  | (with_reducible refine load_has (o := ⟨some 48, _, _, _, _, _⟩) rfl 48 _ rfl _ rfl hR.out Tryz.underlying48 rfl (A.info25 _) ?_)
  | (with_reducible refine store_last (o := ⟨none, Op.store 48 (.tmp 9) _, _, _, _, _⟩) rfl 48 _ _ rfl _ _ rfl rfl rfl (A.info25 _) (by kernel_rfl) (A.one_cells _) ?_))
 clear q0 q3 q4 q5 qb qc
 replace hX := hX.out.alloc (.cells (A.cells s) 48)
 replace hR := hR.out.alloc (.cells (A.cells s) 48)
 replace hI := hI.out.alloc (.cells (A.cells s) 48)
 replace hK := hK.out.alloc (A.cells s) 48
 have hT := Has.new (A.cells s) 48 w2
 generalize w2.heap.size = B9 at *
 generalize w2.alloc _ = w3 at *
 have q0 := hI.cell 0 _ rfl
 have q1 := hI.cell 1 _ rfl
 have q6 := hI.cell 6 _ rfl
 have qh := hR.cell 16 _ (A.cell_h s)
 have qq := hR.cell 19 _ (A.cell_c s)
 have t16 := hT.cell 16 _ (A.cell_h s)
 have t19 := hT.cell 19 _ (A.cell_c s)
 have t20 := hT.cell 20 _ (A.cell_v s)
 have f16 := hT.free 16
 have f19 := hT.free 19
 have f20 := hT.free 20
 replace hX := Lib.hid hX
 replace hR := Lib.hid hR
 replace hI := Lib.hid hI
 replace hK := Lib.hid hK
 replace hT := Lib.hid hT
 go_upto_region 38 with (go_at_call 56; refine (HC.out _).mono ?_; rintro e w4 ⟨rfl, rfl⟩)
 clear q0 q1 q6 qh qq t16 t19 t20 f16 f19 f20
 have q2 := hI.out.cell 2 _ rfl
 have ta := hT.out.cell a.toNat _ (A.cell_r (s) a.toNat (by omega))
 have fa := hT.out.free a.toNat
 go_upto_region 39 with (fail)
 clear q2 ta fa
 replace hT := Lib.hid (hT.out.set a.toNat (.int .u32 X))
 rw [A.set_r (s) a.toNat (by omega) X] at hT
 replace hX := Lib.hid (hX.out.other (p := ⟨B9, a.toNat, none⟩) (Nat.ne_of_lt hl) (.int .u32 X))
 replace hK := Lib.hid (hK.out.setCell (p := ⟨B9, a.toNat, none⟩) (by show w.heap.size ≤ B9; omega) (.int .u32 X))
 clear hI hR
 generalize World.setCell _ _ _ = w5 at *
 go_wp2_with (first
  | (with_reducible refine load_has (o := ⟨some 194, _, _, _, _, _⟩) rfl 48 _ rfl _ rfl hT.out Tryz.underlying48 rfl (A.info25 _) ?_)
  | (with_reducible refine store_has (o := ⟨none, Op.store 48 (.tmp 4) _, _, _, _, _⟩) rfl 48 _ _ rfl _ _ rfl rfl hX.out (A.info25 _) (by kernel_rfl) (A.one_cells _) ?_)
  | (go_at_call 50; (refine (rshow_any _ X hx0 hx1 _).mono ?_; rintro e w7 ⟨rfl, hK7⟩); (replace hX := Lib.hid (hX.out.kept hK7)); (replace hK := Lib.hid (hK.out.trans hK7)); clear hK7))
 exact bodyPost_ret (results_has2 rfl (w.heap.size + 2) rfl (hX.out.row _) Tryz.underlying48 rfl (A.info25 _)) rfl ⟨rfl, hK.out.row (by omega) _⟩
set_option maxRecDepth 100000 in
set_option maxHeartbeats 2000000 in
theorem rdo_1_3 (s : A.Regs) (a b c i bv cv X : Int) (u : Bool) (ha0 : 0 ≤ a) (ha1 : a < 16) (hb0 : 0 ≤ b) (hb1 : b < 16) (hc0 : 0 ≤ c) (hc1 : c < 16) (b0 : 0 ≤ bv) (b1 : bv < 4294967296) (n0 : 0 ≤ cv) (n1 : cv < 4294967296) (hbv : s.r b.toNat = bv) (hcv : s.r c.toNat = cv) (hx0 : 0 ≤ X) (hx1 : X < 4294967296) (w : World)
 (HM : Hid (∀ w, Calls Tryz.prog 54 #[.agg #[.int .i64 1, .int .i64 3, .int .i64 a, .int .i64 b, .int .i64 c, .int .i64 i, .bool u]] w fun e w' => e = .returned (.bool true) ∧ Kept w w'))
 (HC : Hid (∀ w, Calls Tryz.prog 56 #[.int .i64 3, .int .u32 bv, .int .u32 cv] w fun e w' => e = .returned (.int .u32 X) ∧ w = w')) :
 Calls Tryz.prog 33 #[.agg (A.cells s), .agg #[.int .i64 1, .int .i64 3, .int .i64 a, .int .i64 b, .int .i64 c, .int .i64 i, .bool u]] w fun e w' => e = .returned (.tuple #[.agg (A.cells (A.show' (A.set (s) a.toNat X) X)), .int .i64 0]) ∧ Kept w w' := by
 go_enter Tryz.func33, Tryz.ntmps33
 go_wp2_with fail
 refine (HM.out _).mono ?_; rintro e w2 ⟨rfl, hK2⟩
 have hX : Has (w.heap.size + 2) (A.cells A.none') 48 w2 := (Has.new2 _ _ _ _ _).kept hK2
 have hR : Has w.heap.size (A.cells s) 48 w2 := (((Has.new _ _ _).alloc _).alloc _).kept hK2
 have hI := ((Has.new1 _ _ _ _).alloc _).kept hK2
 have hK := ((((Kept.refl w).alloc _ _).alloc _ _).alloc _ _).trans hK2
 have hl := hX.lt
 clear hK2
 have q0 := hI.cell 0 _ rfl
 have q3 := hI.cell 3 _ rfl
 have q4 := hI.cell 4 _ rfl
 have q5 := hI.cell 5 _ rfl
 have qb := hR.cell b.toNat _ (A.cell_r s b.toNat (by omega))
 have qc := hR.cell c.toNat _ (A.cell_r s c.toNat (by omega))
 rw [hbv] at qb
 rw [hcv] at qc
 replace hX := Lib.hid hX
 replace hR := Lib.hid hR
 replace hI := Lib.hid hI
 replace hK := Lib.hid hK
 go_upto_region 14 with (first
  | (with_reducible refine load_has (o := ⟨some 48, _, _, _, _, _⟩) rfl 48 _ rfl _ rfl hR.out Tryz.underlying48 rfl (A.info25 _) ?_)
  | (with_reducible refine store_last (o := ⟨none, Op.store 48 (.tmp 9) _, _, _, _, _⟩) rfl 48 _ _ rfl _ _ rfl rfl rfl (A.info25 _) (by kernel_rfl) (A.one_cells _) ?_))
 clear q0 q3 q4 q5 qb qc
 replace hX := hX.out.alloc (.cells (A.cells s) 48)
 replace hR := hR.out.alloc (.cells (A.cells s) 48)
 replace hI := hI.out.alloc (.cells (A.cells s) 48)
 replace hK := hK.out.alloc (A.cells s) 48
 have hT := Has.new (A.cells s) 48 w2
 generalize w2.heap.size = B9 at *
 generalize w2.alloc _ = w3 at *
 have q0 := hI.cell 0 _ rfl
 have q1 := hI.cell 1 _ rfl
 have q6 := hI.cell 6 _ rfl
 have qh := hR.cell 16 _ (A.cell_h s)
 have qq := hR.cell 19 _ (A.cell_c s)
 have t16 := hT.cell 16 _ (A.cell_h s)
 have t19 := hT.cell 19 _ (A.cell_c s)
 have t20 := hT.cell 20 _ (A.cell_v s)
 have f16 := hT.free 16
 have f19 := hT.free 19
 have f20 := hT.free 20
 replace hX := Lib.hid hX
 replace hR := Lib.hid hR
 replace hI := Lib.hid hI
 replace hK := Lib.hid hK
 replace hT := Lib.hid hT
 go_upto_region 38 with (go_at_call 56; refine (HC.out _).mono ?_; rintro e w4 ⟨rfl, rfl⟩)
 clear q0 q1 q6 qh qq t16 t19 t20 f16 f19 f20
 have q2 := hI.out.cell 2 _ rfl
 have ta := hT.out.cell a.toNat _ (A.cell_r (s) a.toNat (by omega))
 have fa := hT.out.free a.toNat
 go_upto_region 39 with (fail)
 clear q2 ta fa
 replace hT := Lib.hid (hT.out.set a.toNat (.int .u32 X))
 rw [A.set_r (s) a.toNat (by omega) X] at hT
 replace hX := Lib.hid (hX.out.other (p := ⟨B9, a.toNat, none⟩) (Nat.ne_of_lt hl) (.int .u32 X))
 replace hK := Lib.hid (hK.out.setCell (p := ⟨B9, a.toNat, none⟩) (by show w.heap.size ≤ B9; omega) (.int .u32 X))
 clear hI hR
 generalize World.setCell _ _ _ = w5 at *
 go_wp2_with (first
  | (with_reducible refine load_has (o := ⟨some 194, _, _, _, _, _⟩) rfl 48 _ rfl _ rfl hT.out Tryz.underlying48 rfl (A.info25 _) ?_)
  | (with_reducible refine store_has (o := ⟨none, Op.store 48 (.tmp 4) _, _, _, _, _⟩) rfl 48 _ _ rfl _ _ rfl rfl hX.out (A.info25 _) (by kernel_rfl) (A.one_cells _) ?_)
  | (go_at_call 50; (refine (rshow_any _ X hx0 hx1 _).mono ?_; rintro e w7 ⟨rfl, hK7⟩); (replace hX := Lib.hid (hX.out.kept hK7)); (replace hK := Lib.hid (hK.out.trans hK7)); clear hK7))
 exact bodyPost_ret (results_has2 rfl (w.heap.size + 2) rfl (hX.out.row _) Tryz.underlying48 rfl (A.info25 _)) rfl ⟨rfl, hK.out.row (by omega) _⟩
set_option maxRecDepth 100000 in
set_option maxHeartbeats 2000000 in
theorem rdo_1_4 (s : A.Regs) (a b c i bv cv X : Int) (u : Bool) (ha0 : 0 ≤ a) (ha1 : a < 16) (hb0 : 0 ≤ b) (hb1 : b < 16) (hc0 : 0 ≤ c) (hc1 : c < 16) (b0 : 0 ≤ bv) (b1 : bv < 4294967296) (n0 : 0 ≤ cv) (n1 : cv < 4294967296) (hbv : s.r b.toNat = bv) (hcv : s.r c.toNat = cv) (hx0 : 0 ≤ X) (hx1 : X < 4294967296) (w : World)
 (HM : Hid (∀ w, Calls Tryz.prog 54 #[.agg #[.int .i64 1, .int .i64 4, .int .i64 a, .int .i64 b, .int .i64 c, .int .i64 i, .bool u]] w fun e w' => e = .returned (.bool true) ∧ Kept w w'))
 (HE : Hid (bits BinOp.and IntKind.u32 bv cv = X)) :
 Calls Tryz.prog 33 #[.agg (A.cells s), .agg #[.int .i64 1, .int .i64 4, .int .i64 a, .int .i64 b, .int .i64 c, .int .i64 i, .bool u]] w fun e w' => e = .returned (.tuple #[.agg (A.cells (A.show' (A.set (s) a.toNat X) X)), .int .i64 0]) ∧ Kept w w' := by
 go_enter Tryz.func33, Tryz.ntmps33
 go_wp2_with fail
 refine (HM.out _).mono ?_; rintro e w2 ⟨rfl, hK2⟩
 have hX : Has (w.heap.size + 2) (A.cells A.none') 48 w2 := (Has.new2 _ _ _ _ _).kept hK2
 have hR : Has w.heap.size (A.cells s) 48 w2 := (((Has.new _ _ _).alloc _).alloc _).kept hK2
 have hI := ((Has.new1 _ _ _ _).alloc _).kept hK2
 have hK := ((((Kept.refl w).alloc _ _).alloc _ _).alloc _ _).trans hK2
 have hl := hX.lt
 clear hK2
 have q0 := hI.cell 0 _ rfl
 have q3 := hI.cell 3 _ rfl
 have q4 := hI.cell 4 _ rfl
 have q5 := hI.cell 5 _ rfl
 have qb := hR.cell b.toNat _ (A.cell_r s b.toNat (by omega))
 have qc := hR.cell c.toNat _ (A.cell_r s c.toNat (by omega))
 rw [hbv] at qb
 rw [hcv] at qc
 replace hX := Lib.hid hX
 replace hR := Lib.hid hR
 replace hI := Lib.hid hI
 replace hK := Lib.hid hK
 go_upto_region 14 with (first
  | (with_reducible refine load_has (o := ⟨some 48, _, _, _, _, _⟩) rfl 48 _ rfl _ rfl hR.out Tryz.underlying48 rfl (A.info25 _) ?_)
  | (with_reducible refine store_last (o := ⟨none, Op.store 48 (.tmp 9) _, _, _, _, _⟩) rfl 48 _ _ rfl _ _ rfl rfl rfl (A.info25 _) (by kernel_rfl) (A.one_cells _) ?_))
 clear q0 q3 q4 q5 qb qc
 replace hX := hX.out.alloc (.cells (A.cells s) 48)
 replace hR := hR.out.alloc (.cells (A.cells s) 48)
 replace hI := hI.out.alloc (.cells (A.cells s) 48)
 replace hK := hK.out.alloc (A.cells s) 48
 have hT := Has.new (A.cells s) 48 w2
 generalize w2.heap.size = B9 at *
 generalize w2.alloc _ = w3 at *
 have q0 := hI.cell 0 _ rfl
 have q1 := hI.cell 1 _ rfl
 have q6 := hI.cell 6 _ rfl
 have qh := hR.cell 16 _ (A.cell_h s)
 have qq := hR.cell 19 _ (A.cell_c s)
 have t16 := hT.cell 16 _ (A.cell_h s)
 have t19 := hT.cell 19 _ (A.cell_c s)
 have t20 := hT.cell 20 _ (A.cell_v s)
 have f16 := hT.free 16
 have f19 := hT.free 19
 have f20 := hT.free 20
 replace hX := Lib.hid hX
 replace hR := Lib.hid hR
 replace hI := Lib.hid hI
 replace hK := Lib.hid hK
 replace hT := Lib.hid hT
 go_upto_region 38 with (fail)
 rw [HE.out]
 clear q0 q1 q6 qh qq t16 t19 t20 f16 f19 f20
 have q2 := hI.out.cell 2 _ rfl
 have ta := hT.out.cell a.toNat _ (A.cell_r (s) a.toNat (by omega))
 have fa := hT.out.free a.toNat
 go_upto_region 39 with (fail)
 clear q2 ta fa
 replace hT := Lib.hid (hT.out.set a.toNat (.int .u32 X))
 rw [A.set_r (s) a.toNat (by omega) X] at hT
 replace hX := Lib.hid (hX.out.other (p := ⟨B9, a.toNat, none⟩) (Nat.ne_of_lt hl) (.int .u32 X))
 replace hK := Lib.hid (hK.out.setCell (p := ⟨B9, a.toNat, none⟩) (by show w.heap.size ≤ B9; omega) (.int .u32 X))
 clear hI hR
 generalize World.setCell _ _ _ = w5 at *
 go_wp2_with (first
  | (with_reducible refine load_has (o := ⟨some 194, _, _, _, _, _⟩) rfl 48 _ rfl _ rfl hT.out Tryz.underlying48 rfl (A.info25 _) ?_)
  | (with_reducible refine store_has (o := ⟨none, Op.store 48 (.tmp 4) _, _, _, _, _⟩) rfl 48 _ _ rfl _ _ rfl rfl hX.out (A.info25 _) (by kernel_rfl) (A.one_cells _) ?_)
  | (go_at_call 50; (refine (rshow_any _ X hx0 hx1 _).mono ?_; rintro e w7 ⟨rfl, hK7⟩); (replace hX := Lib.hid (hX.out.kept hK7)); (replace hK := Lib.hid (hK.out.trans hK7)); clear hK7))
 exact bodyPost_ret (results_has2 rfl (w.heap.size + 2) rfl (hX.out.row _) Tryz.underlying48 rfl (A.info25 _)) rfl ⟨rfl, hK.out.row (by omega) _⟩
set_option maxRecDepth 100000 in
set_option maxHeartbeats 2000000 in
theorem rdo_1_5 (s : A.Regs) (a b c i bv cv X : Int) (u : Bool) (ha0 : 0 ≤ a) (ha1 : a < 16) (hb0 : 0 ≤ b) (hb1 : b < 16) (hc0 : 0 ≤ c) (hc1 : c < 16) (b0 : 0 ≤ bv) (b1 : bv < 4294967296) (n0 : 0 ≤ cv) (n1 : cv < 4294967296) (hbv : s.r b.toNat = bv) (hcv : s.r c.toNat = cv) (hx0 : 0 ≤ X) (hx1 : X < 4294967296) (w : World)
 (HM : Hid (∀ w, Calls Tryz.prog 54 #[.agg #[.int .i64 1, .int .i64 5, .int .i64 a, .int .i64 b, .int .i64 c, .int .i64 i, .bool u]] w fun e w' => e = .returned (.bool true) ∧ Kept w w'))
 (HE : Hid (bits BinOp.and IntKind.u32 bv (4294967295 - cv) = X)) :
 Calls Tryz.prog 33 #[.agg (A.cells s), .agg #[.int .i64 1, .int .i64 5, .int .i64 a, .int .i64 b, .int .i64 c, .int .i64 i, .bool u]] w fun e w' => e = .returned (.tuple #[.agg (A.cells (A.show' (A.set (s) a.toNat X) X)), .int .i64 0]) ∧ Kept w w' := by
 go_enter Tryz.func33, Tryz.ntmps33
 go_wp2_with fail
 refine (HM.out _).mono ?_; rintro e w2 ⟨rfl, hK2⟩
 have hX : Has (w.heap.size + 2) (A.cells A.none') 48 w2 := (Has.new2 _ _ _ _ _).kept hK2
 have hR : Has w.heap.size (A.cells s) 48 w2 := (((Has.new _ _ _).alloc _).alloc _).kept hK2
 have hI := ((Has.new1 _ _ _ _).alloc _).kept hK2
 have hK := ((((Kept.refl w).alloc _ _).alloc _ _).alloc _ _).trans hK2
 have hl := hX.lt
 clear hK2
 have q0 := hI.cell 0 _ rfl
 have q3 := hI.cell 3 _ rfl
 have q4 := hI.cell 4 _ rfl
 have q5 := hI.cell 5 _ rfl
 have qb := hR.cell b.toNat _ (A.cell_r s b.toNat (by omega))
 have qc := hR.cell c.toNat _ (A.cell_r s c.toNat (by omega))
 rw [hbv] at qb
 rw [hcv] at qc
 replace hX := Lib.hid hX
 replace hR := Lib.hid hR
 replace hI := Lib.hid hI
 replace hK := Lib.hid hK
 go_upto_region 14 with (first
  | (with_reducible refine load_has (o := ⟨some 48, _, _, _, _, _⟩) rfl 48 _ rfl _ rfl hR.out Tryz.underlying48 rfl (A.info25 _) ?_)
  | (with_reducible refine store_last (o := ⟨none, Op.store 48 (.tmp 9) _, _, _, _, _⟩) rfl 48 _ _ rfl _ _ rfl rfl rfl (A.info25 _) (by kernel_rfl) (A.one_cells _) ?_))
 clear q0 q3 q4 q5 qb qc
 replace hX := hX.out.alloc (.cells (A.cells s) 48)
 replace hR := hR.out.alloc (.cells (A.cells s) 48)
 replace hI := hI.out.alloc (.cells (A.cells s) 48)
 replace hK := hK.out.alloc (A.cells s) 48
 have hT := Has.new (A.cells s) 48 w2
 generalize w2.heap.size = B9 at *
 generalize w2.alloc _ = w3 at *
 have q0 := hI.cell 0 _ rfl
 have q1 := hI.cell 1 _ rfl
 have q6 := hI.cell 6 _ rfl
 have qh := hR.cell 16 _ (A.cell_h s)
 have qq := hR.cell 19 _ (A.cell_c s)
 have t16 := hT.cell 16 _ (A.cell_h s)
 have t19 := hT.cell 19 _ (A.cell_c s)
 have t20 := hT.cell 20 _ (A.cell_v s)
 have f16 := hT.free 16
 have f19 := hT.free 19
 have f20 := hT.free 20
 replace hX := Lib.hid hX
 replace hR := Lib.hid hR
 replace hI := Lib.hid hI
 replace hK := Lib.hid hK
 replace hT := Lib.hid hT
 go_upto_region 38 with (fail)
 rw [HE.out]
 clear q0 q1 q6 qh qq t16 t19 t20 f16 f19 f20
 have q2 := hI.out.cell 2 _ rfl
 have ta := hT.out.cell a.toNat _ (A.cell_r (s) a.toNat (by omega))
 have fa := hT.out.free a.toNat
 go_upto_region 39 with (fail)
 clear q2 ta fa
 replace hT := Lib.hid (hT.out.set a.toNat (.int .u32 X))
 rw [A.set_r (s) a.toNat (by omega) X] at hT
 replace hX := Lib.hid (hX.out.other (p := ⟨B9, a.toNat, none⟩) (Nat.ne_of_lt hl) (.int .u32 X))
 replace hK := Lib.hid (hK.out.setCell (p := ⟨B9, a.toNat, none⟩) (by show w.heap.size ≤ B9; omega) (.int .u32 X))
 clear hI hR
 generalize World.setCell _ _ _ = w5 at *
 go_wp2_with (first
  | (with_reducible refine load_has (o := ⟨some 194, _, _, _, _, _⟩) rfl 48 _ rfl _ rfl hT.out Tryz.underlying48 rfl (A.info25 _) ?_)
  | (with_reducible refine store_has (o := ⟨none, Op.store 48 (.tmp 4) _, _, _, _, _⟩) rfl 48 _ _ rfl _ _ rfl rfl hX.out (A.info25 _) (by kernel_rfl) (A.one_cells _) ?_)
  | (go_at_call 50; (refine (rshow_any _ X hx0 hx1 _).mono ?_; rintro e w7 ⟨rfl, hK7⟩); (replace hX := Lib.hid (hX.out.kept hK7)); (replace hK := Lib.hid (hK.out.trans hK7)); clear hK7))
 exact bodyPost_ret (results_has2 rfl (w.heap.size + 2) rfl (hX.out.row _) Tryz.underlying48 rfl (A.info25 _)) rfl ⟨rfl, hK.out.row (by omega) _⟩
set_option maxRecDepth 100000 in
set_option maxHeartbeats 2000000 in
theorem rdo_1_6 (s : A.Regs) (a b c i bv cv X : Int) (u : Bool) (ha0 : 0 ≤ a) (ha1 : a < 16) (hb0 : 0 ≤ b) (hb1 : b < 16) (hc0 : 0 ≤ c) (hc1 : c < 16) (b0 : 0 ≤ bv) (b1 : bv < 4294967296) (n0 : 0 ≤ cv) (n1 : cv < 4294967296) (hbv : s.r b.toNat = bv) (hcv : s.r c.toNat = cv) (hx0 : 0 ≤ X) (hx1 : X < 4294967296) (w : World)
 (HM : Hid (∀ w, Calls Tryz.prog 54 #[.agg #[.int .i64 1, .int .i64 6, .int .i64 a, .int .i64 b, .int .i64 c, .int .i64 i, .bool u]] w fun e w' => e = .returned (.bool true) ∧ Kept w w'))
 (HE : Hid (bits BinOp.or IntKind.u32 bv cv = X)) :
 Calls Tryz.prog 33 #[.agg (A.cells s), .agg #[.int .i64 1, .int .i64 6, .int .i64 a, .int .i64 b, .int .i64 c, .int .i64 i, .bool u]] w fun e w' => e = .returned (.tuple #[.agg (A.cells (A.show' (A.set (s) a.toNat X) X)), .int .i64 0]) ∧ Kept w w' := by
 go_enter Tryz.func33, Tryz.ntmps33
 go_wp2_with fail
 refine (HM.out _).mono ?_; rintro e w2 ⟨rfl, hK2⟩
 have hX : Has (w.heap.size + 2) (A.cells A.none') 48 w2 := (Has.new2 _ _ _ _ _).kept hK2
 have hR : Has w.heap.size (A.cells s) 48 w2 := (((Has.new _ _ _).alloc _).alloc _).kept hK2
 have hI := ((Has.new1 _ _ _ _).alloc _).kept hK2
 have hK := ((((Kept.refl w).alloc _ _).alloc _ _).alloc _ _).trans hK2
 have hl := hX.lt
 clear hK2
 have q0 := hI.cell 0 _ rfl
 have q3 := hI.cell 3 _ rfl
 have q4 := hI.cell 4 _ rfl
 have q5 := hI.cell 5 _ rfl
 have qb := hR.cell b.toNat _ (A.cell_r s b.toNat (by omega))
 have qc := hR.cell c.toNat _ (A.cell_r s c.toNat (by omega))
 rw [hbv] at qb
 rw [hcv] at qc
 replace hX := Lib.hid hX
 replace hR := Lib.hid hR
 replace hI := Lib.hid hI
 replace hK := Lib.hid hK
 go_upto_region 14 with (first
  | (with_reducible refine load_has (o := ⟨some 48, _, _, _, _, _⟩) rfl 48 _ rfl _ rfl hR.out Tryz.underlying48 rfl (A.info25 _) ?_)
  | (with_reducible refine store_last (o := ⟨none, Op.store 48 (.tmp 9) _, _, _, _, _⟩) rfl 48 _ _ rfl _ _ rfl rfl rfl (A.info25 _) (by kernel_rfl) (A.one_cells _) ?_))
 clear q0 q3 q4 q5 qb qc
 replace hX := hX.out.alloc (.cells (A.cells s) 48)
 replace hR := hR.out.alloc (.cells (A.cells s) 48)
 replace hI := hI.out.alloc (.cells (A.cells s) 48)
 replace hK := hK.out.alloc (A.cells s) 48
 have hT := Has.new (A.cells s) 48 w2
 generalize w2.heap.size = B9 at *
 generalize w2.alloc _ = w3 at *
 have q0 := hI.cell 0 _ rfl
 have q1 := hI.cell 1 _ rfl
 have q6 := hI.cell 6 _ rfl
 have qh := hR.cell 16 _ (A.cell_h s)
 have qq := hR.cell 19 _ (A.cell_c s)
 have t16 := hT.cell 16 _ (A.cell_h s)
 have t19 := hT.cell 19 _ (A.cell_c s)
 have t20 := hT.cell 20 _ (A.cell_v s)
 have f16 := hT.free 16
 have f19 := hT.free 19
 have f20 := hT.free 20
 replace hX := Lib.hid hX
 replace hR := Lib.hid hR
 replace hI := Lib.hid hI
 replace hK := Lib.hid hK
 replace hT := Lib.hid hT
 go_upto_region 38 with (fail)
 rw [HE.out]
 clear q0 q1 q6 qh qq t16 t19 t20 f16 f19 f20
 have q2 := hI.out.cell 2 _ rfl
 have ta := hT.out.cell a.toNat _ (A.cell_r (s) a.toNat (by omega))
 have fa := hT.out.free a.toNat
 go_upto_region 39 with (fail)
 clear q2 ta fa
 replace hT := Lib.hid (hT.out.set a.toNat (.int .u32 X))
 rw [A.set_r (s) a.toNat (by omega) X] at hT
 replace hX := Lib.hid (hX.out.other (p := ⟨B9, a.toNat, none⟩) (Nat.ne_of_lt hl) (.int .u32 X))
 replace hK := Lib.hid (hK.out.setCell (p := ⟨B9, a.toNat, none⟩) (by show w.heap.size ≤ B9; omega) (.int .u32 X))
 clear hI hR
 generalize World.setCell _ _ _ = w5 at *
 go_wp2_with (first
  | (with_reducible refine load_has (o := ⟨some 194, _, _, _, _, _⟩) rfl 48 _ rfl _ rfl hT.out Tryz.underlying48 rfl (A.info25 _) ?_)
  | (with_reducible refine store_has (o := ⟨none, Op.store 48 (.tmp 4) _, _, _, _, _⟩) rfl 48 _ _ rfl _ _ rfl rfl hX.out (A.info25 _) (by kernel_rfl) (A.one_cells _) ?_)
  | (go_at_call 50; (refine (rshow_any _ X hx0 hx1 _).mono ?_; rintro e w7 ⟨rfl, hK7⟩); (replace hX := Lib.hid (hX.out.kept hK7)); (replace hK := Lib.hid (hK.out.trans hK7)); clear hK7))
 exact bodyPost_ret (results_has2 rfl (w.heap.size + 2) rfl (hX.out.row _) Tryz.underlying48 rfl (A.info25 _)) rfl ⟨rfl, hK.out.row (by omega) _⟩
set_option maxRecDepth 100000 in
set_option maxHeartbeats 2000000 in
theorem rdo_1_7 (s : A.Regs) (a b c i bv cv X : Int) (u : Bool) (ha0 : 0 ≤ a) (ha1 : a < 16) (hb0 : 0 ≤ b) (hb1 : b < 16) (hc0 : 0 ≤ c) (hc1 : c < 16) (b0 : 0 ≤ bv) (b1 : bv < 4294967296) (n0 : 0 ≤ cv) (n1 : cv < 4294967296) (hbv : s.r b.toNat = bv) (hcv : s.r c.toNat = cv) (hx0 : 0 ≤ X) (hx1 : X < 4294967296) (w : World)
 (HM : Hid (∀ w, Calls Tryz.prog 54 #[.agg #[.int .i64 1, .int .i64 7, .int .i64 a, .int .i64 b, .int .i64 c, .int .i64 i, .bool u]] w fun e w' => e = .returned (.bool true) ∧ Kept w w'))
 (HE : Hid ((bits BinOp.or IntKind.u32 bv cv - bits BinOp.and IntKind.u32 bv cv) % 4294967296 = X)) :
 Calls Tryz.prog 33 #[.agg (A.cells s), .agg #[.int .i64 1, .int .i64 7, .int .i64 a, .int .i64 b, .int .i64 c, .int .i64 i, .bool u]] w fun e w' => e = .returned (.tuple #[.agg (A.cells (A.show' (A.set (s) a.toNat X) X)), .int .i64 0]) ∧ Kept w w' := by
 go_enter Tryz.func33, Tryz.ntmps33
 go_wp2_with fail
 refine (HM.out _).mono ?_; rintro e w2 ⟨rfl, hK2⟩
 have hX : Has (w.heap.size + 2) (A.cells A.none') 48 w2 := (Has.new2 _ _ _ _ _).kept hK2
 have hR : Has w.heap.size (A.cells s) 48 w2 := (((Has.new _ _ _).alloc _).alloc _).kept hK2
 have hI := ((Has.new1 _ _ _ _).alloc _).kept hK2
 have hK := ((((Kept.refl w).alloc _ _).alloc _ _).alloc _ _).trans hK2
 have hl := hX.lt
 clear hK2
 have q0 := hI.cell 0 _ rfl
 have q3 := hI.cell 3 _ rfl
 have q4 := hI.cell 4 _ rfl
 have q5 := hI.cell 5 _ rfl
 have qb := hR.cell b.toNat _ (A.cell_r s b.toNat (by omega))
 have qc := hR.cell c.toNat _ (A.cell_r s c.toNat (by omega))
 rw [hbv] at qb
 rw [hcv] at qc
 replace hX := Lib.hid hX
 replace hR := Lib.hid hR
 replace hI := Lib.hid hI
 replace hK := Lib.hid hK
 go_upto_region 14 with (first
  | (with_reducible refine load_has (o := ⟨some 48, _, _, _, _, _⟩) rfl 48 _ rfl _ rfl hR.out Tryz.underlying48 rfl (A.info25 _) ?_)
  | (with_reducible refine store_last (o := ⟨none, Op.store 48 (.tmp 9) _, _, _, _, _⟩) rfl 48 _ _ rfl _ _ rfl rfl rfl (A.info25 _) (by kernel_rfl) (A.one_cells _) ?_))
 clear q0 q3 q4 q5 qb qc
 replace hX := hX.out.alloc (.cells (A.cells s) 48)
 replace hR := hR.out.alloc (.cells (A.cells s) 48)
 replace hI := hI.out.alloc (.cells (A.cells s) 48)
 replace hK := hK.out.alloc (A.cells s) 48
 have hT := Has.new (A.cells s) 48 w2
 generalize w2.heap.size = B9 at *
 generalize w2.alloc _ = w3 at *
 have q0 := hI.cell 0 _ rfl
 have q1 := hI.cell 1 _ rfl
 have q6 := hI.cell 6 _ rfl
 have qh := hR.cell 16 _ (A.cell_h s)
 have qq := hR.cell 19 _ (A.cell_c s)
 have t16 := hT.cell 16 _ (A.cell_h s)
 have t19 := hT.cell 19 _ (A.cell_c s)
 have t20 := hT.cell 20 _ (A.cell_v s)
 have f16 := hT.free 16
 have f19 := hT.free 19
 have f20 := hT.free 20
 replace hX := Lib.hid hX
 replace hR := Lib.hid hR
 replace hI := Lib.hid hI
 replace hK := Lib.hid hK
 replace hT := Lib.hid hT
 go_upto_region 38 with (fail)
 rw [HE.out]
 clear q0 q1 q6 qh qq t16 t19 t20 f16 f19 f20
 have q2 := hI.out.cell 2 _ rfl
 have ta := hT.out.cell a.toNat _ (A.cell_r (s) a.toNat (by omega))
 have fa := hT.out.free a.toNat
 go_upto_region 39 with (fail)
 clear q2 ta fa
 replace hT := Lib.hid (hT.out.set a.toNat (.int .u32 X))
 rw [A.set_r (s) a.toNat (by omega) X] at hT
 replace hX := Lib.hid (hX.out.other (p := ⟨B9, a.toNat, none⟩) (Nat.ne_of_lt hl) (.int .u32 X))
 replace hK := Lib.hid (hK.out.setCell (p := ⟨B9, a.toNat, none⟩) (by show w.heap.size ≤ B9; omega) (.int .u32 X))
 clear hI hR
 generalize World.setCell _ _ _ = w5 at *
 go_wp2_with (first
  | (with_reducible refine load_has (o := ⟨some 194, _, _, _, _, _⟩) rfl 48 _ rfl _ rfl hT.out Tryz.underlying48 rfl (A.info25 _) ?_)
  | (with_reducible refine store_has (o := ⟨none, Op.store 48 (.tmp 4) _, _, _, _, _⟩) rfl 48 _ _ rfl _ _ rfl rfl hX.out (A.info25 _) (by kernel_rfl) (A.one_cells _) ?_)
  | (go_at_call 50; (refine (rshow_any _ X hx0 hx1 _).mono ?_; rintro e w7 ⟨rfl, hK7⟩); (replace hX := Lib.hid (hX.out.kept hK7)); (replace hK := Lib.hid (hK.out.trans hK7)); clear hK7))
 exact bodyPost_ret (results_has2 rfl (w.heap.size + 2) rfl (hX.out.row _) Tryz.underlying48 rfl (A.info25 _)) rfl ⟨rfl, hK.out.row (by omega) _⟩
set_option maxRecDepth 100000 in
set_option maxHeartbeats 2000000 in
theorem rdo_1_8t (s : A.Regs) (a b c i bv cv X : Int) (C V : Bool) (ha0 : 0 ≤ a) (ha1 : a < 16) (hb0 : 0 ≤ b) (hb1 : b < 16) (hc0 : 0 ≤ c) (hc1 : c < 16) (b0 : 0 ≤ bv) (b1 : bv < 4294967296) (n0 : 0 ≤ cv) (n1 : cv < 4294967296) (hbv : s.r b.toNat = bv) (hcv : s.r c.toNat = cv) (hx0 : 0 ≤ X) (hx1 : X < 4294967296) (w : World)
 (HM : Hid (∀ w, Calls Tryz.prog 54 #[.agg #[.int .i64 1, .int .i64 8, .int .i64 a, .int .i64 b, .int .i64 c, .int .i64 i, .bool true]] w fun e w' => e = .returned (.bool true) ∧ Kept w w'))
 (HC : Hid (∀ w, Calls Tryz.prog 57 #[.int .u32 bv, .int .u32 cv, .bool s.c] w fun e w' => e = .returned (.tuple #[.int .u32 X, .bool C, .bool V]) ∧ w = w')) :
 Calls Tryz.prog 33 #[.agg (A.cells s), .agg #[.int .i64 1, .int .i64 8, .int .i64 a, .int .i64 b, .int .i64 c, .int .i64 i, .bool true]] w fun e w' => e = .returned (.tuple #[.agg (A.cells (A.show' (A.set (A.setV (A.setC s C) V) a.toNat X) X)), .int .i64 0]) ∧ Kept w w' := by
 go_enter Tryz.func33, Tryz.ntmps33
 go_wp2_with fail
 refine (HM.out _).mono ?_; rintro e w2 ⟨rfl, hK2⟩
 have hX : Has (w.heap.size + 2) (A.cells A.none') 48 w2 := (Has.new2 _ _ _ _ _).kept hK2
 have hR : Has w.heap.size (A.cells s) 48 w2 := (((Has.new _ _ _).alloc _).alloc _).kept hK2
 have hI := ((Has.new1 _ _ _ _).alloc _).kept hK2
 have hK := ((((Kept.refl w).alloc _ _).alloc _ _).alloc _ _).trans hK2
 have hl := hX.lt
 clear hK2
 have q0 := hI.cell 0 _ rfl
 have q3 := hI.cell 3 _ rfl
 have q4 := hI.cell 4 _ rfl
 have q5 := hI.cell 5 _ rfl
 have qb := hR.cell b.toNat _ (A.cell_r s b.toNat (by omega))
 have qc := hR.cell c.toNat _ (A.cell_r s c.toNat (by omega))
 rw [hbv] at qb
 rw [hcv] at qc
 replace hX := Lib.hid hX
 replace hR := Lib.hid hR
 replace hI := Lib.hid hI
 replace hK := Lib.hid hK
 go_upto_region 14 with (first
  | (with_reducible refine load_has (o := ⟨some 48, _, _, _, _, _⟩) rfl 48 _ rfl _ rfl hR.out Tryz.underlying48 rfl (A.info25 _) ?_)
  | (with_reducible refine store_last (o := ⟨none, Op.store 48 (.tmp 9) _, _, _, _, _⟩) rfl 48 _ _ rfl _ _ rfl rfl rfl (A.info25 _) (by kernel_rfl) (A.one_cells _) ?_))
 clear q0 q3 q4 q5 qb qc
 replace hX := hX.out.alloc (.cells (A.cells s) 48)
 replace hR := hR.out.alloc (.cells (A.cells s) 48)
 replace hI := hI.out.alloc (.cells (A.cells s) 48)
 replace hK := hK.out.alloc (A.cells s) 48
 have hT := Has.new (A.cells s) 48 w2
 generalize w2.heap.size = B9 at *
 generalize w2.alloc _ = w3 at *
 have q0 := hI.cell 0 _ rfl
 have q1 := hI.cell 1 _ rfl
 have q6 := hI.cell 6 _ rfl
 have qh := hR.cell 16 _ (A.cell_h s)
 have qq := hR.cell 19 _ (A.cell_c s)
 have t16 := hT.cell 16 _ (A.cell_h s)
 have t19 := hT.cell 19 _ (A.cell_c s)
 have t20 := hT.cell 20 _ (A.cell_v s)
 have f16 := hT.free 16
 have f19 := hT.free 19
 have f20 := hT.free 20
 replace hX := Lib.hid hX
 replace hR := Lib.hid hR
 replace hI := Lib.hid hI
 replace hK := Lib.hid hK
 replace hT := Lib.hid hT
 go_upto_region 38 with (go_at_call 57; refine (HC.out _).mono ?_; rintro e w4 ⟨rfl, rfl⟩)
 clear q0 q1 q6 qh qq t16 t19 t20 f16 f19 f20
 replace hT := Lib.hid (hT.out.set 19 (.bool C))
 rw [A.set_c] at hT
 replace hX := Lib.hid (hX.out.other (p := ⟨B9, 19, none⟩) (Nat.ne_of_lt hl) (.bool C))
 replace hI := Lib.hid (hI.out.other (p := ⟨B9, 19, none⟩) (Nat.ne_of_lt (by show w.heap.size + 1 < B9; omega)) (.bool C))
 replace hK := Lib.hid (hK.out.setCell (p := ⟨B9, 19, none⟩) (by show w.heap.size ≤ B9; omega) (.bool C))
 replace hT := Lib.hid (hT.out.set 20 (.bool V))
 rw [A.set_v] at hT
 replace hX := Lib.hid (hX.out.other (p := ⟨B9, 20, none⟩) (Nat.ne_of_lt hl) (.bool V))
 replace hI := Lib.hid (hI.out.other (p := ⟨B9, 20, none⟩) (Nat.ne_of_lt (by show w.heap.size + 1 < B9; omega)) (.bool V))
 replace hK := Lib.hid (hK.out.setCell (p := ⟨B9, 20, none⟩) (by show w.heap.size ≤ B9; omega) (.bool V))
 generalize World.setCell _ _ _ = w4 at *
 have q2 := hI.out.cell 2 _ rfl
 have ta := hT.out.cell a.toNat _ (A.cell_r (A.setV (A.setC s C) V) a.toNat (by omega))
 have fa := hT.out.free a.toNat
 go_upto_region 39 with (fail)
 clear q2 ta fa
 replace hT := Lib.hid (hT.out.set a.toNat (.int .u32 X))
 rw [A.set_r (A.setV (A.setC s C) V) a.toNat (by omega) X] at hT
 replace hX := Lib.hid (hX.out.other (p := ⟨B9, a.toNat, none⟩) (Nat.ne_of_lt hl) (.int .u32 X))
 replace hK := Lib.hid (hK.out.setCell (p := ⟨B9, a.toNat, none⟩) (by show w.heap.size ≤ B9; omega) (.int .u32 X))
 clear hI hR
 generalize World.setCell _ _ _ = w5 at *
 go_wp2_with (first
  | (with_reducible refine load_has (o := ⟨some 194, _, _, _, _, _⟩) rfl 48 _ rfl _ rfl hT.out Tryz.underlying48 rfl (A.info25 _) ?_)
  | (with_reducible refine store_has (o := ⟨none, Op.store 48 (.tmp 4) _, _, _, _, _⟩) rfl 48 _ _ rfl _ _ rfl rfl hX.out (A.info25 _) (by kernel_rfl) (A.one_cells _) ?_)
  | (go_at_call 50; (refine (rshow_any _ X hx0 hx1 _).mono ?_; rintro e w7 ⟨rfl, hK7⟩); (replace hX := Lib.hid (hX.out.kept hK7)); (replace hK := Lib.hid (hK.out.trans hK7)); clear hK7))
 exact bodyPost_ret (results_has2 rfl (w.heap.size + 2) rfl (hX.out.row _) Tryz.underlying48 rfl (A.info25 _)) rfl ⟨rfl, hK.out.row (by omega) _⟩
set_option maxRecDepth 100000 in
set_option maxHeartbeats 2000000 in
theorem rdo_1_8f (s : A.Regs) (a b c i bv cv X : Int) (C V : Bool) (ha0 : 0 ≤ a) (ha1 : a < 16) (hb0 : 0 ≤ b) (hb1 : b < 16) (hc0 : 0 ≤ c) (hc1 : c < 16) (b0 : 0 ≤ bv) (b1 : bv < 4294967296) (n0 : 0 ≤ cv) (n1 : cv < 4294967296) (hbv : s.r b.toNat = bv) (hcv : s.r c.toNat = cv) (hx0 : 0 ≤ X) (hx1 : X < 4294967296) (w : World)
 (HM : Hid (∀ w, Calls Tryz.prog 54 #[.agg #[.int .i64 1, .int .i64 8, .int .i64 a, .int .i64 b, .int .i64 c, .int .i64 i, .bool false]] w fun e w' => e = .returned (.bool true) ∧ Kept w w'))
 (HC : Hid (∀ w, Calls Tryz.prog 57 #[.int .u32 bv, .int .u32 cv, .bool false] w fun e w' => e = .returned (.tuple #[.int .u32 X, .bool C, .bool V]) ∧ w = w')) :
 Calls Tryz.prog 33 #[.agg (A.cells s), .agg #[.int .i64 1, .int .i64 8, .int .i64 a, .int .i64 b, .int .i64 c, .int .i64 i, .bool false]] w fun e w' => e = .returned (.tuple #[.agg (A.cells (A.show' (A.set (A.setV (A.setC s C) V) a.toNat X) X)), .int .i64 0]) ∧ Kept w w' := by
 go_enter Tryz.func33, Tryz.ntmps33
 go_wp2_with fail
 refine (HM.out _).mono ?_; rintro e w2 ⟨rfl, hK2⟩
 have hX : Has (w.heap.size + 2) (A.cells A.none') 48 w2 := (Has.new2 _ _ _ _ _).kept hK2
 have hR : Has w.heap.size (A.cells s) 48 w2 := (((Has.new _ _ _).alloc _).alloc _).kept hK2
 have hI := ((Has.new1 _ _ _ _).alloc _).kept hK2
 have hK := ((((Kept.refl w).alloc _ _).alloc _ _).alloc _ _).trans hK2
 have hl := hX.lt
 clear hK2
 have q0 := hI.cell 0 _ rfl
 have q3 := hI.cell 3 _ rfl
 have q4 := hI.cell 4 _ rfl
 have q5 := hI.cell 5 _ rfl
 have qb := hR.cell b.toNat _ (A.cell_r s b.toNat (by omega))
 have qc := hR.cell c.toNat _ (A.cell_r s c.toNat (by omega))
 rw [hbv] at qb
 rw [hcv] at qc
 replace hX := Lib.hid hX
 replace hR := Lib.hid hR
 replace hI := Lib.hid hI
 replace hK := Lib.hid hK
 go_upto_region 14 with (first
  | (with_reducible refine load_has (o := ⟨some 48, _, _, _, _, _⟩) rfl 48 _ rfl _ rfl hR.out Tryz.underlying48 rfl (A.info25 _) ?_)
  | (with_reducible refine store_last (o := ⟨none, Op.store 48 (.tmp 9) _, _, _, _, _⟩) rfl 48 _ _ rfl _ _ rfl rfl rfl (A.info25 _) (by kernel_rfl) (A.one_cells _) ?_))
 clear q0 q3 q4 q5 qb qc
 replace hX := hX.out.alloc (.cells (A.cells s) 48)
 replace hR := hR.out.alloc (.cells (A.cells s) 48)
 replace hI := hI.out.alloc (.cells (A.cells s) 48)
 replace hK := hK.out.alloc (A.cells s) 48
 have hT := Has.new (A.cells s) 48 w2
 generalize w2.heap.size = B9 at *
 generalize w2.alloc _ = w3 at *
 have q0 := hI.cell 0 _ rfl
 have q1 := hI.cell 1 _ rfl
 have q6 := hI.cell 6 _ rfl
 have qh := hR.cell 16 _ (A.cell_h s)
 have qq := hR.cell 19 _ (A.cell_c s)
 have t16 := hT.cell 16 _ (A.cell_h s)
 have t19 := hT.cell 19 _ (A.cell_c s)
 have t20 := hT.cell 20 _ (A.cell_v s)
 have f16 := hT.free 16
 have f19 := hT.free 19
 have f20 := hT.free 20
 replace hX := Lib.hid hX
 replace hR := Lib.hid hR
 replace hI := Lib.hid hI
 replace hK := Lib.hid hK
 replace hT := Lib.hid hT
 go_upto_region 38 with (go_at_call 57; refine (HC.out _).mono ?_; rintro e w4 ⟨rfl, rfl⟩)
 clear q0 q1 q6 qh qq t16 t19 t20 f16 f19 f20
 replace hT := Lib.hid (hT.out.set 19 (.bool C))
 rw [A.set_c] at hT
 replace hX := Lib.hid (hX.out.other (p := ⟨B9, 19, none⟩) (Nat.ne_of_lt hl) (.bool C))
 replace hI := Lib.hid (hI.out.other (p := ⟨B9, 19, none⟩) (Nat.ne_of_lt (by show w.heap.size + 1 < B9; omega)) (.bool C))
 replace hK := Lib.hid (hK.out.setCell (p := ⟨B9, 19, none⟩) (by show w.heap.size ≤ B9; omega) (.bool C))
 replace hT := Lib.hid (hT.out.set 20 (.bool V))
 rw [A.set_v] at hT
 replace hX := Lib.hid (hX.out.other (p := ⟨B9, 20, none⟩) (Nat.ne_of_lt hl) (.bool V))
 replace hI := Lib.hid (hI.out.other (p := ⟨B9, 20, none⟩) (Nat.ne_of_lt (by show w.heap.size + 1 < B9; omega)) (.bool V))
 replace hK := Lib.hid (hK.out.setCell (p := ⟨B9, 20, none⟩) (by show w.heap.size ≤ B9; omega) (.bool V))
 generalize World.setCell _ _ _ = w4 at *
 have q2 := hI.out.cell 2 _ rfl
 have ta := hT.out.cell a.toNat _ (A.cell_r (A.setV (A.setC s C) V) a.toNat (by omega))
 have fa := hT.out.free a.toNat
 go_upto_region 39 with (fail)
 clear q2 ta fa
 replace hT := Lib.hid (hT.out.set a.toNat (.int .u32 X))
 rw [A.set_r (A.setV (A.setC s C) V) a.toNat (by omega) X] at hT
 replace hX := Lib.hid (hX.out.other (p := ⟨B9, a.toNat, none⟩) (Nat.ne_of_lt hl) (.int .u32 X))
 replace hK := Lib.hid (hK.out.setCell (p := ⟨B9, a.toNat, none⟩) (by show w.heap.size ≤ B9; omega) (.int .u32 X))
 clear hI hR
 generalize World.setCell _ _ _ = w5 at *
 go_wp2_with (first
  | (with_reducible refine load_has (o := ⟨some 194, _, _, _, _, _⟩) rfl 48 _ rfl _ rfl hT.out Tryz.underlying48 rfl (A.info25 _) ?_)
  | (with_reducible refine store_has (o := ⟨none, Op.store 48 (.tmp 4) _, _, _, _, _⟩) rfl 48 _ _ rfl _ _ rfl rfl hX.out (A.info25 _) (by kernel_rfl) (A.one_cells _) ?_)
  | (go_at_call 50; (refine (rshow_any _ X hx0 hx1 _).mono ?_; rintro e w7 ⟨rfl, hK7⟩); (replace hX := Lib.hid (hX.out.kept hK7)); (replace hK := Lib.hid (hK.out.trans hK7)); clear hK7))
 exact bodyPost_ret (results_has2 rfl (w.heap.size + 2) rfl (hX.out.row _) Tryz.underlying48 rfl (A.info25 _)) rfl ⟨rfl, hK.out.row (by omega) _⟩
set_option maxRecDepth 100000 in
set_option maxHeartbeats 2000000 in
theorem rdo_1_9t (s : A.Regs) (a b c i bv cv X : Int) (C V : Bool) (ha0 : 0 ≤ a) (ha1 : a < 16) (hb0 : 0 ≤ b) (hb1 : b < 16) (hc0 : 0 ≤ c) (hc1 : c < 16) (b0 : 0 ≤ bv) (b1 : bv < 4294967296) (n0 : 0 ≤ cv) (n1 : cv < 4294967296) (hbv : s.r b.toNat = bv) (hcv : s.r c.toNat = cv) (hx0 : 0 ≤ X) (hx1 : X < 4294967296) (w : World)
 (HM : Hid (∀ w, Calls Tryz.prog 54 #[.agg #[.int .i64 1, .int .i64 9, .int .i64 a, .int .i64 b, .int .i64 c, .int .i64 i, .bool true]] w fun e w' => e = .returned (.bool true) ∧ Kept w w'))
 (HC : Hid (∀ w, Calls Tryz.prog 58 #[.int .u32 bv, .int .u32 cv, .bool s.c] w fun e w' => e = .returned (.tuple #[.int .u32 X, .bool C, .bool V]) ∧ w = w')) :
 Calls Tryz.prog 33 #[.agg (A.cells s), .agg #[.int .i64 1, .int .i64 9, .int .i64 a, .int .i64 b, .int .i64 c, .int .i64 i, .bool true]] w fun e w' => e = .returned (.tuple #[.agg (A.cells (A.show' (A.set (A.setV (A.setC s C) V) a.toNat X) X)), .int .i64 0]) ∧ Kept w w' := by
 go_enter Tryz.func33, Tryz.ntmps33
 go_wp2_with fail
 refine (HM.out _).mono ?_; rintro e w2 ⟨rfl, hK2⟩
 have hX : Has (w.heap.size + 2) (A.cells A.none') 48 w2 := (Has.new2 _ _ _ _ _).kept hK2
 have hR : Has w.heap.size (A.cells s) 48 w2 := (((Has.new _ _ _).alloc _).alloc _).kept hK2
 have hI := ((Has.new1 _ _ _ _).alloc _).kept hK2
 have hK := ((((Kept.refl w).alloc _ _).alloc _ _).alloc _ _).trans hK2
 have hl := hX.lt
 clear hK2
 have q0 := hI.cell 0 _ rfl
 have q3 := hI.cell 3 _ rfl
 have q4 := hI.cell 4 _ rfl
 have q5 := hI.cell 5 _ rfl
 have qb := hR.cell b.toNat _ (A.cell_r s b.toNat (by omega))
 have qc := hR.cell c.toNat _ (A.cell_r s c.toNat (by omega))
 rw [hbv] at qb
 rw [hcv] at qc
 replace hX := Lib.hid hX
 replace hR := Lib.hid hR
 replace hI := Lib.hid hI
 replace hK := Lib.hid hK
 go_upto_region 14 with (first
  | (with_reducible refine load_has (o := ⟨some 48, _, _, _, _, _⟩) rfl 48 _ rfl _ rfl hR.out Tryz.underlying48 rfl (A.info25 _) ?_)
  | (with_reducible refine store_last (o := ⟨none, Op.store 48 (.tmp 9) _, _, _, _, _⟩) rfl 48 _ _ rfl _ _ rfl rfl rfl (A.info25 _) (by kernel_rfl) (A.one_cells _) ?_))
 clear q0 q3 q4 q5 qb qc
 replace hX := hX.out.alloc (.cells (A.cells s) 48)
 replace hR := hR.out.alloc (.cells (A.cells s) 48)
 replace hI := hI.out.alloc (.cells (A.cells s) 48)
 replace hK := hK.out.alloc (A.cells s) 48
 have hT := Has.new (A.cells s) 48 w2
 generalize w2.heap.size = B9 at *
 generalize w2.alloc _ = w3 at *
 have q0 := hI.cell 0 _ rfl
 have q1 := hI.cell 1 _ rfl
 have q6 := hI.cell 6 _ rfl
 have qh := hR.cell 16 _ (A.cell_h s)
 have qq := hR.cell 19 _ (A.cell_c s)
 have t16 := hT.cell 16 _ (A.cell_h s)
 have t19 := hT.cell 19 _ (A.cell_c s)
 have t20 := hT.cell 20 _ (A.cell_v s)
 have f16 := hT.free 16
 have f19 := hT.free 19
 have f20 := hT.free 20
 replace hX := Lib.hid hX
 replace hR := Lib.hid hR
 replace hI := Lib.hid hI
 replace hK := Lib.hid hK
 replace hT := Lib.hid hT
 go_upto_region 38 with (go_at_call 58; refine (HC.out _).mono ?_; rintro e w4 ⟨rfl, rfl⟩)
 clear q0 q1 q6 qh qq t16 t19 t20 f16 f19 f20
 replace hT := Lib.hid (hT.out.set 19 (.bool C))
 rw [A.set_c] at hT
 replace hX := Lib.hid (hX.out.other (p := ⟨B9, 19, none⟩) (Nat.ne_of_lt hl) (.bool C))
 replace hI := Lib.hid (hI.out.other (p := ⟨B9, 19, none⟩) (Nat.ne_of_lt (by show w.heap.size + 1 < B9; omega)) (.bool C))
 replace hK := Lib.hid (hK.out.setCell (p := ⟨B9, 19, none⟩) (by show w.heap.size ≤ B9; omega) (.bool C))
 replace hT := Lib.hid (hT.out.set 20 (.bool V))
 rw [A.set_v] at hT
 replace hX := Lib.hid (hX.out.other (p := ⟨B9, 20, none⟩) (Nat.ne_of_lt hl) (.bool V))
 replace hI := Lib.hid (hI.out.other (p := ⟨B9, 20, none⟩) (Nat.ne_of_lt (by show w.heap.size + 1 < B9; omega)) (.bool V))
 replace hK := Lib.hid (hK.out.setCell (p := ⟨B9, 20, none⟩) (by show w.heap.size ≤ B9; omega) (.bool V))
 generalize World.setCell _ _ _ = w4 at *
 have q2 := hI.out.cell 2 _ rfl
 have ta := hT.out.cell a.toNat _ (A.cell_r (A.setV (A.setC s C) V) a.toNat (by omega))
 have fa := hT.out.free a.toNat
 go_upto_region 39 with (fail)
 clear q2 ta fa
 replace hT := Lib.hid (hT.out.set a.toNat (.int .u32 X))
 rw [A.set_r (A.setV (A.setC s C) V) a.toNat (by omega) X] at hT
 replace hX := Lib.hid (hX.out.other (p := ⟨B9, a.toNat, none⟩) (Nat.ne_of_lt hl) (.int .u32 X))
 replace hK := Lib.hid (hK.out.setCell (p := ⟨B9, a.toNat, none⟩) (by show w.heap.size ≤ B9; omega) (.int .u32 X))
 clear hI hR
 generalize World.setCell _ _ _ = w5 at *
 go_wp2_with (first
  | (with_reducible refine load_has (o := ⟨some 194, _, _, _, _, _⟩) rfl 48 _ rfl _ rfl hT.out Tryz.underlying48 rfl (A.info25 _) ?_)
  | (with_reducible refine store_has (o := ⟨none, Op.store 48 (.tmp 4) _, _, _, _, _⟩) rfl 48 _ _ rfl _ _ rfl rfl hX.out (A.info25 _) (by kernel_rfl) (A.one_cells _) ?_)
  | (go_at_call 50; (refine (rshow_any _ X hx0 hx1 _).mono ?_; rintro e w7 ⟨rfl, hK7⟩); (replace hX := Lib.hid (hX.out.kept hK7)); (replace hK := Lib.hid (hK.out.trans hK7)); clear hK7))
 exact bodyPost_ret (results_has2 rfl (w.heap.size + 2) rfl (hX.out.row _) Tryz.underlying48 rfl (A.info25 _)) rfl ⟨rfl, hK.out.row (by omega) _⟩
set_option maxRecDepth 100000 in
set_option maxHeartbeats 2000000 in
theorem rdo_1_9f (s : A.Regs) (a b c i bv cv X : Int) (C V : Bool) (ha0 : 0 ≤ a) (ha1 : a < 16) (hb0 : 0 ≤ b) (hb1 : b < 16) (hc0 : 0 ≤ c) (hc1 : c < 16) (b0 : 0 ≤ bv) (b1 : bv < 4294967296) (n0 : 0 ≤ cv) (n1 : cv < 4294967296) (hbv : s.r b.toNat = bv) (hcv : s.r c.toNat = cv) (hx0 : 0 ≤ X) (hx1 : X < 4294967296) (w : World)
 (HM : Hid (∀ w, Calls Tryz.prog 54 #[.agg #[.int .i64 1, .int .i64 9, .int .i64 a, .int .i64 b, .int .i64 c, .int .i64 i, .bool false]] w fun e w' => e = .returned (.bool true) ∧ Kept w w'))
 (HC : Hid (∀ w, Calls Tryz.prog 58 #[.int .u32 bv, .int .u32 cv, .bool false] w fun e w' => e = .returned (.tuple #[.int .u32 X, .bool C, .bool V]) ∧ w = w')) :
 Calls Tryz.prog 33 #[.agg (A.cells s), .agg #[.int .i64 1, .int .i64 9, .int .i64 a, .int .i64 b, .int .i64 c, .int .i64 i, .bool false]] w fun e w' => e = .returned (.tuple #[.agg (A.cells (A.show' (A.set (A.setV (A.setC s C) V) a.toNat X) X)), .int .i64 0]) ∧ Kept w w' := by
 go_enter Tryz.func33, Tryz.ntmps33
 go_wp2_with fail
 refine (HM.out _).mono ?_; rintro e w2 ⟨rfl, hK2⟩
 have hX : Has (w.heap.size + 2) (A.cells A.none') 48 w2 := (Has.new2 _ _ _ _ _).kept hK2
 have hR : Has w.heap.size (A.cells s) 48 w2 := (((Has.new _ _ _).alloc _).alloc _).kept hK2
 have hI := ((Has.new1 _ _ _ _).alloc _).kept hK2
 have hK := ((((Kept.refl w).alloc _ _).alloc _ _).alloc _ _).trans hK2
 have hl := hX.lt
 clear hK2
 have q0 := hI.cell 0 _ rfl
 have q3 := hI.cell 3 _ rfl
 have q4 := hI.cell 4 _ rfl
 have q5 := hI.cell 5 _ rfl
 have qb := hR.cell b.toNat _ (A.cell_r s b.toNat (by omega))
 have qc := hR.cell c.toNat _ (A.cell_r s c.toNat (by omega))
 rw [hbv] at qb
 rw [hcv] at qc
 replace hX := Lib.hid hX
 replace hR := Lib.hid hR
 replace hI := Lib.hid hI
 replace hK := Lib.hid hK
 go_upto_region 14 with (first
  | (with_reducible refine load_has (o := ⟨some 48, _, _, _, _, _⟩) rfl 48 _ rfl _ rfl hR.out Tryz.underlying48 rfl (A.info25 _) ?_)
  | (with_reducible refine store_last (o := ⟨none, Op.store 48 (.tmp 9) _, _, _, _, _⟩) rfl 48 _ _ rfl _ _ rfl rfl rfl (A.info25 _) (by kernel_rfl) (A.one_cells _) ?_))
 clear q0 q3 q4 q5 qb qc
 replace hX := hX.out.alloc (.cells (A.cells s) 48)
 replace hR := hR.out.alloc (.cells (A.cells s) 48)
 replace hI := hI.out.alloc (.cells (A.cells s) 48)
 replace hK := hK.out.alloc (A.cells s) 48
 have hT := Has.new (A.cells s) 48 w2
 generalize w2.heap.size = B9 at *
 generalize w2.alloc _ = w3 at *
 have q0 := hI.cell 0 _ rfl
 have q1 := hI.cell 1 _ rfl
 have q6 := hI.cell 6 _ rfl
 have qh := hR.cell 16 _ (A.cell_h s)
 have qq := hR.cell 19 _ (A.cell_c s)
 have t16 := hT.cell 16 _ (A.cell_h s)
 have t19 := hT.cell 19 _ (A.cell_c s)
 have t20 := hT.cell 20 _ (A.cell_v s)
 have f16 := hT.free 16
 have f19 := hT.free 19
 have f20 := hT.free 20
 replace hX := Lib.hid hX
 replace hR := Lib.hid hR
 replace hI := Lib.hid hI
 replace hK := Lib.hid hK
 replace hT := Lib.hid hT
 go_upto_region 38 with (go_at_call 58; refine (HC.out _).mono ?_; rintro e w4 ⟨rfl, rfl⟩)
 clear q0 q1 q6 qh qq t16 t19 t20 f16 f19 f20
 replace hT := Lib.hid (hT.out.set 19 (.bool C))
 rw [A.set_c] at hT
 replace hX := Lib.hid (hX.out.other (p := ⟨B9, 19, none⟩) (Nat.ne_of_lt hl) (.bool C))
 replace hI := Lib.hid (hI.out.other (p := ⟨B9, 19, none⟩) (Nat.ne_of_lt (by show w.heap.size + 1 < B9; omega)) (.bool C))
 replace hK := Lib.hid (hK.out.setCell (p := ⟨B9, 19, none⟩) (by show w.heap.size ≤ B9; omega) (.bool C))
 replace hT := Lib.hid (hT.out.set 20 (.bool V))
 rw [A.set_v] at hT
 replace hX := Lib.hid (hX.out.other (p := ⟨B9, 20, none⟩) (Nat.ne_of_lt hl) (.bool V))
 replace hI := Lib.hid (hI.out.other (p := ⟨B9, 20, none⟩) (Nat.ne_of_lt (by show w.heap.size + 1 < B9; omega)) (.bool V))
 replace hK := Lib.hid (hK.out.setCell (p := ⟨B9, 20, none⟩) (by show w.heap.size ≤ B9; omega) (.bool V))
 generalize World.setCell _ _ _ = w4 at *
 have q2 := hI.out.cell 2 _ rfl
 have ta := hT.out.cell a.toNat _ (A.cell_r (A.setV (A.setC s C) V) a.toNat (by omega))
 have fa := hT.out.free a.toNat
 go_upto_region 39 with (fail)
 clear q2 ta fa
 replace hT := Lib.hid (hT.out.set a.toNat (.int .u32 X))
 rw [A.set_r (A.setV (A.setC s C) V) a.toNat (by omega) X] at hT
 replace hX := Lib.hid (hX.out.other (p := ⟨B9, a.toNat, none⟩) (Nat.ne_of_lt hl) (.int .u32 X))
 replace hK := Lib.hid (hK.out.setCell (p := ⟨B9, a.toNat, none⟩) (by show w.heap.size ≤ B9; omega) (.int .u32 X))
 clear hI hR
 generalize World.setCell _ _ _ = w5 at *
 go_wp2_with (first
  | (with_reducible refine load_has (o := ⟨some 194, _, _, _, _, _⟩) rfl 48 _ rfl _ rfl hT.out Tryz.underlying48 rfl (A.info25 _) ?_)
  | (with_reducible refine store_has (o := ⟨none, Op.store 48 (.tmp 4) _, _, _, _, _⟩) rfl 48 _ _ rfl _ _ rfl rfl hX.out (A.info25 _) (by kernel_rfl) (A.one_cells _) ?_)
  | (go_at_call 50; (refine (rshow_any _ X hx0 hx1 _).mono ?_; rintro e w7 ⟨rfl, hK7⟩); (replace hX := Lib.hid (hX.out.kept hK7)); (replace hK := Lib.hid (hK.out.trans hK7)); clear hK7))
 exact bodyPost_ret (results_has2 rfl (w.heap.size + 2) rfl (hX.out.row _) Tryz.underlying48 rfl (A.info25 _)) rfl ⟨rfl, hK.out.row (by omega) _⟩
set_option maxRecDepth 100000 in
set_option maxHeartbeats 2000000 in
theorem rdo_1_10 (s : A.Regs) (a b c i bv cv X : Int) (u : Bool) (H : Int) (ha0 : 0 ≤ a) (ha1 : a < 16) (hb0 : 0 ≤ b) (hb1 : b < 16) (hc0 : 0 ≤ c) (hc1 : c < 16) (b0 : 0 ≤ bv) (b1 : bv < 4294967296) (n0 : 0 ≤ cv) (n1 : cv < 4294967296) (hbv : s.r b.toNat = bv) (hcv : s.r c.toNat = cv) (hx0 : 0 ≤ X) (hx1 : X < 4294967296) (w : World)
 (HM : Hid (∀ w, Calls Tryz.prog 54 #[.agg #[.int .i64 1, .int .i64 10, .int .i64 a, .int .i64 b, .int .i64 c, .int .i64 i, .bool u]] w fun e w' => e = .returned (.bool true) ∧ Kept w w'))
 (HC : Hid (∀ w, Calls Tryz.prog 59 #[.int .u32 bv, .int .u32 cv, .bool u] w fun e w' => e = .returned (.tuple #[.int .u32 X, .int .u32 H]) ∧ w = w')) :
 Calls Tryz.prog 33 #[.agg (A.cells s), .agg #[.int .i64 1, .int .i64 10, .int .i64 a, .int .i64 b, .int .i64 c, .int .i64 i, .bool u]] w fun e w' => e = .returned (.tuple #[.agg (A.cells (A.show' (A.set (A.setH s H) a.toNat X) X)), .int .i64 0]) ∧ Kept w w' := by
 go_enter Tryz.func33, Tryz.ntmps33
 go_wp2_with fail
 refine (HM.out _).mono ?_; rintro e w2 ⟨rfl, hK2⟩
 have hX : Has (w.heap.size + 2) (A.cells A.none') 48 w2 := (Has.new2 _ _ _ _ _).kept hK2
 have hR : Has w.heap.size (A.cells s) 48 w2 := (((Has.new _ _ _).alloc _).alloc _).kept hK2
 have hI := ((Has.new1 _ _ _ _).alloc _).kept hK2
 have hK := ((((Kept.refl w).alloc _ _).alloc _ _).alloc _ _).trans hK2
 have hl := hX.lt
 clear hK2
 have q0 := hI.cell 0 _ rfl
 have q3 := hI.cell 3 _ rfl
 have q4 := hI.cell 4 _ rfl
 have q5 := hI.cell 5 _ rfl
 have qb := hR.cell b.toNat _ (A.cell_r s b.toNat (by omega))
 have qc := hR.cell c.toNat _ (A.cell_r s c.toNat (by omega))
 rw [hbv] at qb
 rw [hcv] at qc
 replace hX := Lib.hid hX
 replace hR := Lib.hid hR
 replace hI := Lib.hid hI
 replace hK := Lib.hid hK
 go_upto_region 14 with (first
  | (with_reducible refine load_has (o := ⟨some 48, _, _, _, _, _⟩) rfl 48 _ rfl _ rfl hR.out Tryz.underlying48 rfl (A.info25 _) ?_)
  | (with_reducible refine store_last (o := ⟨none, Op.store 48 (.tmp 9) _, _, _, _, _⟩) rfl 48 _ _ rfl _ _ rfl rfl rfl (A.info25 _) (by kernel_rfl) (A.one_cells _) ?_))
 clear q0 q3 q4 q5 qb qc
 replace hX := hX.out.alloc (.cells (A.cells s) 48)
 replace hR := hR.out.alloc (.cells (A.cells s) 48)
 replace hI := hI.out.alloc (.cells (A.cells s) 48)
 replace hK := hK.out.alloc (A.cells s) 48
 have hT := Has.new (A.cells s) 48 w2
 generalize w2.heap.size = B9 at *
 generalize w2.alloc _ = w3 at *
 have q0 := hI.cell 0 _ rfl
 have q1 := hI.cell 1 _ rfl
 have q6 := hI.cell 6 _ rfl
 have qh := hR.cell 16 _ (A.cell_h s)
 have qq := hR.cell 19 _ (A.cell_c s)
 have t16 := hT.cell 16 _ (A.cell_h s)
 have t19 := hT.cell 19 _ (A.cell_c s)
 have t20 := hT.cell 20 _ (A.cell_v s)
 have f16 := hT.free 16
 have f19 := hT.free 19
 have f20 := hT.free 20
 replace hX := Lib.hid hX
 replace hR := Lib.hid hR
 replace hI := Lib.hid hI
 replace hK := Lib.hid hK
 replace hT := Lib.hid hT
 go_upto_region 38 with (go_at_call 59; refine (HC.out _).mono ?_; rintro e w4 ⟨rfl, rfl⟩)
 clear q0 q1 q6 qh qq t16 t19 t20 f16 f19 f20
 replace hT := Lib.hid (hT.out.set 16 (.int .u32 H))
 rw [A.set_h] at hT
 replace hX := Lib.hid (hX.out.other (p := ⟨B9, 16, none⟩) (Nat.ne_of_lt hl) (.int .u32 H))
 replace hI := Lib.hid (hI.out.other (p := ⟨B9, 16, none⟩) (Nat.ne_of_lt (by show w.heap.size + 1 < B9; omega)) (.int .u32 H))
 replace hK := Lib.hid (hK.out.setCell (p := ⟨B9, 16, none⟩) (by show w.heap.size ≤ B9; omega) (.int .u32 H))
 generalize World.setCell _ _ _ = w4 at *
 have q2 := hI.out.cell 2 _ rfl
 have ta := hT.out.cell a.toNat _ (A.cell_r (A.setH s H) a.toNat (by omega))
 have fa := hT.out.free a.toNat
 go_upto_region 39 with (fail)
 clear q2 ta fa
 replace hT := Lib.hid (hT.out.set a.toNat (.int .u32 X))
 rw [A.set_r (A.setH s H) a.toNat (by omega) X] at hT
 replace hX := Lib.hid (hX.out.other (p := ⟨B9, a.toNat, none⟩) (Nat.ne_of_lt hl) (.int .u32 X))
 replace hK := Lib.hid (hK.out.setCell (p := ⟨B9, a.toNat, none⟩) (by show w.heap.size ≤ B9; omega) (.int .u32 X))
 clear hI hR
 generalize World.setCell _ _ _ = w5 at *
 go_wp2_with (first
  | (with_reducible refine load_has (o := ⟨some 194, _, _, _, _, _⟩) rfl 48 _ rfl _ rfl hT.out Tryz.underlying48 rfl (A.info25 _) ?_)
  | (with_reducible refine store_has (o := ⟨none, Op.store 48 (.tmp 4) _, _, _, _, _⟩) rfl 48 _ _ rfl _ _ rfl rfl hX.out (A.info25 _) (by kernel_rfl) (A.one_cells _) ?_)
  | (go_at_call 50; (refine (rshow_any _ X hx0 hx1 _).mono ?_; rintro e w7 ⟨rfl, hK7⟩); (replace hX := Lib.hid (hX.out.kept hK7)); (replace hK := Lib.hid (hK.out.trans hK7)); clear hK7))
 exact bodyPost_ret (results_has2 rfl (w.heap.size + 2) rfl (hX.out.row _) Tryz.underlying48 rfl (A.info25 _)) rfl ⟨rfl, hK.out.row (by omega) _⟩
set_option maxRecDepth 100000 in
set_option maxHeartbeats 2000000 in
theorem rdo_1_11 (s : A.Regs) (a b c i bv cv X : Int) (u : Bool) (H : Int) (ha0 : 0 ≤ a) (ha1 : a < 16) (hb0 : 0 ≤ b) (hb1 : b < 16) (hc0 : 0 ≤ c) (hc1 : c < 16) (b0 : 0 ≤ bv) (b1 : bv < 4294967296) (n0 : 0 ≤ cv) (n1 : cv < 4294967296) (hbv : s.r b.toNat = bv) (hcv : s.r c.toNat = cv) (hx0 : 0 ≤ X) (hx1 : X < 4294967296) (w : World)
 (HM : Hid (∀ w, Calls Tryz.prog 54 #[.agg #[.int .i64 1, .int .i64 11, .int .i64 a, .int .i64 b, .int .i64 c, .int .i64 i, .bool u]] w fun e w' => e = .returned (.bool true) ∧ Kept w w'))
 (HC : Hid (∀ w, Calls Tryz.prog 60 #[.int .u32 bv, .int .u32 cv] w fun e w' => e = .returned (.tuple #[.int .u32 X, .int .u32 H, .bool true]) ∧ w = w')) :
 Calls Tryz.prog 33 #[.agg (A.cells s), .agg #[.int .i64 1, .int .i64 11, .int .i64 a, .int .i64 b, .int .i64 c, .int .i64 i, .bool u]] w fun e w' => e = .returned (.tuple #[.agg (A.cells (A.show' (A.set (A.setH s H) a.toNat X) X)), .int .i64 0]) ∧ Kept w w' := by
 go_enter Tryz.func33, Tryz.ntmps33
 go_wp2_with fail
 refine (HM.out _).mono ?_; rintro e w2 ⟨rfl, hK2⟩
 have hX : Has (w.heap.size + 2) (A.cells A.none') 48 w2 := (Has.new2 _ _ _ _ _).kept hK2
 have hR : Has w.heap.size (A.cells s) 48 w2 := (((Has.new _ _ _).alloc _).alloc _).kept hK2
 have hI := ((Has.new1 _ _ _ _).alloc _).kept hK2
 have hK := ((((Kept.refl w).alloc _ _).alloc _ _).alloc _ _).trans hK2
 have hl := hX.lt
 clear hK2
 have q0 := hI.cell 0 _ rfl
 have q3 := hI.cell 3 _ rfl
 have q4 := hI.cell 4 _ rfl
 have q5 := hI.cell 5 _ rfl
 have qb := hR.cell b.toNat _ (A.cell_r s b.toNat (by omega))
 have qc := hR.cell c.toNat _ (A.cell_r s c.toNat (by omega))
 rw [hbv] at qb
 rw [hcv] at qc
 replace hX := Lib.hid hX
 replace hR := Lib.hid hR
 replace hI := Lib.hid hI
 replace hK := Lib.hid hK
 go_upto_region 14 with (first
  | (with_reducible refine load_has (o := ⟨some 48, _, _, _, _, _⟩) rfl 48 _ rfl _ rfl hR.out Tryz.underlying48 rfl (A.info25 _) ?_)
  | (with_reducible refine store_last (o := ⟨none, Op.store 48 (.tmp 9) _, _, _, _, _⟩) rfl 48 _ _ rfl _ _ rfl rfl rfl (A.info25 _) (by kernel_rfl) (A.one_cells _) ?_))
 clear q0 q3 q4 q5 qb qc
 replace hX := hX.out.alloc (.cells (A.cells s) 48)
 replace hR := hR.out.alloc (.cells (A.cells s) 48)
 replace hI := hI.out.alloc (.cells (A.cells s) 48)
 replace hK := hK.out.alloc (A.cells s) 48
 have hT := Has.new (A.cells s) 48 w2
 generalize w2.heap.size = B9 at *
 generalize w2.alloc _ = w3 at *
 have q0 := hI.cell 0 _ rfl
 have q1 := hI.cell 1 _ rfl
 have q6 := hI.cell 6 _ rfl
 have qh := hR.cell 16 _ (A.cell_h s)
 have qq := hR.cell 19 _ (A.cell_c s)
 have t16 := hT.cell 16 _ (A.cell_h s)
 have t19 := hT.cell 19 _ (A.cell_c s)
 have t20 := hT.cell 20 _ (A.cell_v s)
 have f16 := hT.free 16
 have f19 := hT.free 19
 have f20 := hT.free 20
 replace hX := Lib.hid hX
 replace hR := Lib.hid hR
 replace hI := Lib.hid hI
 replace hK := Lib.hid hK
 replace hT := Lib.hid hT
 go_upto_region 38 with (go_at_call 60; refine (HC.out _).mono ?_; rintro e w4 ⟨rfl, rfl⟩)
 clear q0 q1 q6 qh qq t16 t19 t20 f16 f19 f20
 replace hT := Lib.hid (hT.out.set 16 (.int .u32 H))
 rw [A.set_h] at hT
 replace hX := Lib.hid (hX.out.other (p := ⟨B9, 16, none⟩) (Nat.ne_of_lt hl) (.int .u32 H))
 replace hI := Lib.hid (hI.out.other (p := ⟨B9, 16, none⟩) (Nat.ne_of_lt (by show w.heap.size + 1 < B9; omega)) (.int .u32 H))
 replace hK := Lib.hid (hK.out.setCell (p := ⟨B9, 16, none⟩) (by show w.heap.size ≤ B9; omega) (.int .u32 H))
 generalize World.setCell _ _ _ = w4 at *
 have q2 := hI.out.cell 2 _ rfl
 have ta := hT.out.cell a.toNat _ (A.cell_r (A.setH s H) a.toNat (by omega))
 have fa := hT.out.free a.toNat
 go_upto_region 39 with (fail)
 clear q2 ta fa
 replace hT := Lib.hid (hT.out.set a.toNat (.int .u32 X))
 rw [A.set_r (A.setH s H) a.toNat (by omega) X] at hT
 replace hX := Lib.hid (hX.out.other (p := ⟨B9, a.toNat, none⟩) (Nat.ne_of_lt hl) (.int .u32 X))
 replace hK := Lib.hid (hK.out.setCell (p := ⟨B9, a.toNat, none⟩) (by show w.heap.size ≤ B9; omega) (.int .u32 X))
 clear hI hR
 generalize World.setCell _ _ _ = w5 at *
 go_wp2_with (first
  | (with_reducible refine load_has (o := ⟨some 194, _, _, _, _, _⟩) rfl 48 _ rfl _ rfl hT.out Tryz.underlying48 rfl (A.info25 _) ?_)
  | (with_reducible refine store_has (o := ⟨none, Op.store 48 (.tmp 4) _, _, _, _, _⟩) rfl 48 _ _ rfl _ _ rfl rfl hX.out (A.info25 _) (by kernel_rfl) (A.one_cells _) ?_)
  | (go_at_call 50; (refine (rshow_any _ X hx0 hx1 _).mono ?_; rintro e w7 ⟨rfl, hK7⟩); (replace hX := Lib.hid (hX.out.kept hK7)); (replace hK := Lib.hid (hK.out.trans hK7)); clear hK7))
 exact bodyPost_ret (results_has2 rfl (w.heap.size + 2) rfl (hX.out.row _) Tryz.underlying48 rfl (A.info25 _)) rfl ⟨rfl, hK.out.row (by omega) _⟩
set_option maxRecDepth 100000 in
set_option maxHeartbeats 2000000 in
theorem rdo_1_11n (s : A.Regs) (a b c i bv cv X : Int) (u : Bool) (ha0 : 0 ≤ a) (ha1 : a < 16) (hb0 : 0 ≤ b) (hb1 : b < 16) (hc0 : 0 ≤ c) (hc1 : c < 16) (b0 : 0 ≤ bv) (b1 : bv < 4294967296) (n0 : 0 ≤ cv) (n1 : cv < 4294967296) (hbv : s.r b.toNat = bv) (hcv : s.r c.toNat = cv) (hx0 : 0 ≤ X) (hx1 : X < 4294967296) (w : World)
 (HM : Hid (∀ w, Calls Tryz.prog 54 #[.agg #[.int .i64 1, .int .i64 11, .int .i64 a, .int .i64 b, .int .i64 c, .int .i64 i, .bool u]] w fun e w' => e = .returned (.bool true) ∧ Kept w w'))
 (HC : Hid (∀ w, Calls Tryz.prog 60 #[.int .u32 bv, .int .u32 cv] w fun e w' => e = .returned (.tuple #[.int .u32 0, .int .u32 0, .bool false]) ∧ w = w')) :
 Calls Tryz.prog 33 #[.agg (A.cells s), .agg #[.int .i64 1, .int .i64 11, .int .i64 a, .int .i64 b, .int .i64 c, .int .i64 i, .bool u]] w fun e w' => e = .returned (.tuple #[.agg (A.cells s), .int .i64 5]) ∧ Kept w w' := by
 go_enter Tryz.func33, Tryz.ntmps33
 go_wp2_with fail
 refine (HM.out _).mono ?_; rintro e w2 ⟨rfl, hK2⟩
 have hX : Has (w.heap.size + 2) (A.cells A.none') 48 w2 := (Has.new2 _ _ _ _ _).kept hK2
 have hR : Has w.heap.size (A.cells s) 48 w2 := (((Has.new _ _ _).alloc _).alloc _).kept hK2
 have hI := ((Has.new1 _ _ _ _).alloc _).kept hK2
 have hK := ((((Kept.refl w).alloc _ _).alloc _ _).alloc _ _).trans hK2
 have hl := hX.lt
 clear hK2
 have q0 := hI.cell 0 _ rfl
 have q3 := hI.cell 3 _ rfl
 have q4 := hI.cell 4 _ rfl
 have q5 := hI.cell 5 _ rfl
 have qb := hR.cell b.toNat _ (A.cell_r s b.toNat (by omega))
 have qc := hR.cell c.toNat _ (A.cell_r s c.toNat (by omega))
 rw [hbv] at qb
 rw [hcv] at qc
 replace hX := Lib.hid hX
 replace hR := Lib.hid hR
 replace hI := Lib.hid hI
 replace hK := Lib.hid hK
 go_upto_region 14 with (first
  | (with_reducible refine load_has (o := ⟨some 48, _, _, _, _, _⟩) rfl 48 _ rfl _ rfl hR.out Tryz.underlying48 rfl (A.info25 _) ?_)
  | (with_reducible refine store_last (o := ⟨none, Op.store 48 (.tmp 9) _, _, _, _, _⟩) rfl 48 _ _ rfl _ _ rfl rfl rfl (A.info25 _) (by kernel_rfl) (A.one_cells _) ?_))
 clear q0 q3 q4 q5 qb qc
 replace hX := hX.out.alloc (.cells (A.cells s) 48)
 replace hR := hR.out.alloc (.cells (A.cells s) 48)
 replace hI := hI.out.alloc (.cells (A.cells s) 48)
 replace hK := hK.out.alloc (A.cells s) 48
 have hT := Has.new (A.cells s) 48 w2
 generalize w2.heap.size = B9 at *
 generalize w2.alloc _ = w3 at *
 have q0 := hI.cell 0 _ rfl
 have q1 := hI.cell 1 _ rfl
 have q6 := hI.cell 6 _ rfl
 have qh := hR.cell 16 _ (A.cell_h s)
 have qq := hR.cell 19 _ (A.cell_c s)
 have t16 := hT.cell 16 _ (A.cell_h s)
 have t19 := hT.cell 19 _ (A.cell_c s)
 have t20 := hT.cell 20 _ (A.cell_v s)
 have f16 := hT.free 16
 have f19 := hT.free 19
 have f20 := hT.free 20
 replace hX := Lib.hid hX
 replace hR := Lib.hid hR
 replace hI := Lib.hid hI
 replace hK := Lib.hid hK
 replace hT := Lib.hid hT
 go_wp2_with (first
  | (go_at_call 60; refine (HC.out _).mono ?_; rintro e w4 ⟨rfl, rfl⟩)
  | (with_reducible refine load_has (o := ⟨some 58, _, _, _, _, _⟩) rfl 48 _ rfl _ rfl hR.out Tryz.underlying48 rfl (A.info25 _) ?_)
  | (with_reducible refine store_has (o := ⟨none, Op.store 48 (.tmp 4) _, _, _, _, _⟩) rfl 48 _ _ rfl _ _ rfl rfl hX.out (A.info25 _) (by kernel_rfl) (A.one_cells _) ?_))
 exact bodyPost_ret (results_has2 rfl (w.heap.size + 2) rfl (hX.out.row _) Tryz.underlying48 rfl (A.info25 _)) rfl ⟨rfl, hK.out.row (by omega) _⟩
set_option maxRecDepth 100000 in
set_option maxHeartbeats 2000000 in
theorem rdo_2_0f (s : A.Regs) (a b c i bv cv X : Int) (ha0 : 0 ≤ a) (ha1 : a < 16) (hb0 : 0 ≤ b) (hb1 : b < 16) (hc0 : 0 ≤ c) (hc1 : c < 16) (b0 : 0 ≤ bv) (b1 : bv < 4294967296) (n0 : 0 ≤ i % 4294967296) (n1 : i % 4294967296 < 4294967296) (hbv : s.r b.toNat = bv) (hcv : s.r c.toNat = cv) (hx0 : 0 ≤ X) (hx1 : X < 4294967296) (w : World)
 (HM : Hid (∀ w, Calls Tryz.prog 54 #[.agg #[.int .i64 2, .int .i64 0, .int .i64 a, .int .i64 b, .int .i64 c, .int .i64 i, .bool false]] w fun e w' => e = .returned (.bool true) ∧ Kept w w'))
 (HE : Hid ((i % 4294967296) = X)) :
 Calls Tryz.prog 33 #[.agg (A.cells s), .agg #[.int .i64 2, .int .i64 0, .int .i64 a, .int .i64 b, .int .i64 c, .int .i64 i, .bool false]] w fun e w' => e = .returned (.tuple #[.agg (A.cells (A.show' (A.set (s) a.toNat X) X)), .int .i64 0]) ∧ Kept w w' := by
 go_enter Tryz.func33, Tryz.ntmps33
 go_wp2_with fail
 refine (HM.out _).mono ?_; rintro e w2 ⟨rfl, hK2⟩
 have hX : Has (w.heap.size + 2) (A.cells A.none') 48 w2 := (Has.new2 _ _ _ _ _).kept hK2
 have hR : Has w.heap.size (A.cells s) 48 w2 := (((Has.new _ _ _).alloc _).alloc _).kept hK2
 have hI := ((Has.new1 _ _ _ _).alloc _).kept hK2
 have hK := ((((Kept.refl w).alloc _ _).alloc _ _).alloc _ _).trans hK2
 have hl := hX.lt
 clear hK2
 have q0 := hI.cell 0 _ rfl
 have q3 := hI.cell 3 _ rfl
 have q4 := hI.cell 4 _ rfl
 have q5 := hI.cell 5 _ rfl
 have qb := hR.cell b.toNat _ (A.cell_r s b.toNat (by omega))
 have qc := hR.cell c.toNat _ (A.cell_r s c.toNat (by omega))
 rw [hbv] at qb
 rw [hcv] at qc
 replace hX := Lib.hid hX
 replace hR := Lib.hid hR
 replace hI := Lib.hid hI
 replace hK := Lib.hid hK
 go_upto_region 14 with (first
  | (with_reducible refine load_has (o := ⟨some 48, _, _, _, _, _⟩) rfl 48 _ rfl _ rfl hR.out Tryz.underlying48 rfl (A.info25 _) ?_)
  | (with_reducible refine store_last (o := ⟨none, Op.store 48 (.tmp 9) _, _, _, _, _⟩) rfl 48 _ _ rfl _ _ rfl rfl rfl (A.info25 _) (by kernel_rfl) (A.one_cells _) ?_))
 clear q0 q3 q4 q5 qb qc
 replace hX := hX.out.alloc (.cells (A.cells s) 48)
 replace hR := hR.out.alloc (.cells (A.cells s) 48)
 replace hI := hI.out.alloc (.cells (A.cells s) 48)
 replace hK := hK.out.alloc (A.cells s) 48
 have hT := Has.new (A.cells s) 48 w2
 generalize w2.heap.size = B9 at *
 generalize w2.alloc _ = w3 at *
 have q0 := hI.cell 0 _ rfl
 have q1 := hI.cell 1 _ rfl
 have q6 := hI.cell 6 _ rfl
 have qh := hR.cell 16 _ (A.cell_h s)
 have qq := hR.cell 19 _ (A.cell_c s)
 have t16 := hT.cell 16 _ (A.cell_h s)
 have t19 := hT.cell 19 _ (A.cell_c s)
 have t20 := hT.cell 20 _ (A.cell_v s)
 have f16 := hT.free 16
 have f19 := hT.free 19
 have f20 := hT.free 20
 replace hX := Lib.hid hX
 replace hR := Lib.hid hR
 replace hI := Lib.hid hI
 replace hK := Lib.hid hK
 replace hT := Lib.hid hT
 go_upto_region 38 with (fail)
 rw [HE.out]
 clear q0 q1 q6 qh qq t16 t19 t20 f16 f19 f20
 have q2 := hI.out.cell 2 _ rfl
 have ta := hT.out.cell a.toNat _ (A.cell_r (s) a.toNat (by omega))
 have fa := hT.out.free a.toNat
 go_upto_region 39 with (fail)
 clear q2 ta fa
 replace hT := Lib.hid (hT.out.set a.toNat (.int .u32 X))
 rw [A.set_r (s) a.toNat (by omega) X] at hT
 replace hX := Lib.hid (hX.out.other (p := ⟨B9, a.toNat, none⟩) (Nat.ne_of_lt hl) (.int .u32 X))
 replace hK := Lib.hid (hK.out.setCell (p := ⟨B9, a.toNat, none⟩) (by show w.heap.size ≤ B9; omega) (.int .u32 X))
 clear hI hR
 generalize World.setCell _ _ _ = w5 at *
 go_wp2_with (first
  | (with_reducible refine load_has (o := ⟨some 194, _, _, _, _, _⟩) rfl 48 _ rfl _ rfl hT.out Tryz.underlying48 rfl (A.info25 _) ?_)
  | (with_reducible refine store_has (o := ⟨none, Op.store 48 (.tmp 4) _, _, _, _, _⟩) rfl 48 _ _ rfl _ _ rfl rfl hX.out (A.info25 _) (by kernel_rfl) (A.one_cells _) ?_)
  | (go_at_call 50; (refine (rshow_any _ X hx0 hx1 _).mono ?_; rintro e w7 ⟨rfl, hK7⟩); (replace hX := Lib.hid (hX.out.kept hK7)); (replace hK := Lib.hid (hK.out.trans hK7)); clear hK7))
 exact bodyPost_ret (results_has2 rfl (w.heap.size + 2) rfl (hX.out.row _) Tryz.underlying48 rfl (A.info25 _)) rfl ⟨rfl, hK.out.row (by omega) _⟩
set_option maxRecDepth 100000 in
set_option maxHeartbeats 2000000 in
theorem rdo_2_0t (s : A.Regs) (a b c i bv cv X : Int) (ha0 : 0 ≤ a) (ha1 : a < 16) (hb0 : 0 ≤ b) (hb1 : b < 16) (hc0 : 0 ≤ c) (hc1 : c < 16) (b0 : 0 ≤ bv) (b1 : bv < 4294967296) (n0 : 0 ≤ i % 4294967296) (n1 : i % 4294967296 < 4294967296) (hbv : s.r b.toNat = bv) (hcv : s.r c.toNat = cv) (hx0 : 0 ≤ X) (hx1 : X < 4294967296) (w : World)
 (HM : Hid (∀ w, Calls Tryz.prog 54 #[.agg #[.int .i64 2, .int .i64 0, .int .i64 a, .int .i64 b, .int .i64 c, .int .i64 i, .bool true]] w fun e w' => e = .returned (.bool true) ∧ Kept w w'))
 (HE : Hid ((i % 4294967296) * 65536 % 4294967296 = X)) :
 Calls Tryz.prog 33 #[.agg (A.cells s), .agg #[.int .i64 2, .int .i64 0, .int .i64 a, .int .i64 b, .int .i64 c, .int .i64 i, .bool true]] w fun e w' => e = .returned (.tuple #[.agg (A.cells (A.show' (A.set (s) a.toNat X) X)), .int .i64 0]) ∧ Kept w w' := by
 go_enter Tryz.func33, Tryz.ntmps33
 go_wp2_with fail
 refine (HM.out _).mono ?_; rintro e w2 ⟨rfl, hK2⟩
 have hX : Has (w.heap.size + 2) (A.cells A.none') 48 w2 := (Has.new2 _ _ _ _ _).kept hK2
 have hR : Has w.heap.size (A.cells s) 48 w2 := (((Has.new _ _ _).alloc _).alloc _).kept hK2
 have hI := ((Has.new1 _ _ _ _).alloc _).kept hK2
 have hK := ((((Kept.refl w).alloc _ _).alloc _ _).alloc _ _).trans hK2
 have hl := hX.lt
 clear hK2
 have q0 := hI.cell 0 _ rfl
 have q3 := hI.cell 3 _ rfl
 have q4 := hI.cell 4 _ rfl
 have q5 := hI.cell 5 _ rfl
 have qb := hR.cell b.toNat _ (A.cell_r s b.toNat (by omega))
 have qc := hR.cell c.toNat _ (A.cell_r s c.toNat (by omega))
 rw [hbv] at qb
 rw [hcv] at qc
 replace hX := Lib.hid hX
 replace hR := Lib.hid hR
 replace hI := Lib.hid hI
 replace hK := Lib.hid hK
 go_upto_region 14 with (first
  | (with_reducible refine load_has (o := ⟨some 48, _, _, _, _, _⟩) rfl 48 _ rfl _ rfl hR.out Tryz.underlying48 rfl (A.info25 _) ?_)
  | (with_reducible refine store_last (o := ⟨none, Op.store 48 (.tmp 9) _, _, _, _, _⟩) rfl 48 _ _ rfl _ _ rfl rfl rfl (A.info25 _) (by kernel_rfl) (A.one_cells _) ?_))
 clear q0 q3 q4 q5 qb qc
 replace hX := hX.out.alloc (.cells (A.cells s) 48)
 replace hR := hR.out.alloc (.cells (A.cells s) 48)
 replace hI := hI.out.alloc (.cells (A.cells s) 48)
 replace hK := hK.out.alloc (A.cells s) 48
 have hT := Has.new (A.cells s) 48 w2
 generalize w2.heap.size = B9 at *
 generalize w2.alloc _ = w3 at *
 have q0 := hI.cell 0 _ rfl
 have q1 := hI.cell 1 _ rfl
 have q6 := hI.cell 6 _ rfl
 have qh := hR.cell 16 _ (A.cell_h s)
 have qq := hR.cell 19 _ (A.cell_c s)
 have t16 := hT.cell 16 _ (A.cell_h s)
 have t19 := hT.cell 19 _ (A.cell_c s)
 have t20 := hT.cell 20 _ (A.cell_v s)
 have f16 := hT.free 16
 have f19 := hT.free 19
 have f20 := hT.free 20
 replace hX := Lib.hid hX
 replace hR := Lib.hid hR
 replace hI := Lib.hid hI
 replace hK := Lib.hid hK
 replace hT := Lib.hid hT
 go_upto_region 38 with (fail)
 rw [HE.out]
 clear q0 q1 q6 qh qq t16 t19 t20 f16 f19 f20
 have q2 := hI.out.cell 2 _ rfl
 have ta := hT.out.cell a.toNat _ (A.cell_r (s) a.toNat (by omega))
 have fa := hT.out.free a.toNat
 go_upto_region 39 with (fail)
 clear q2 ta fa
 replace hT := Lib.hid (hT.out.set a.toNat (.int .u32 X))
 rw [A.set_r (s) a.toNat (by omega) X] at hT
 replace hX := Lib.hid (hX.out.other (p := ⟨B9, a.toNat, none⟩) (Nat.ne_of_lt hl) (.int .u32 X))
 replace hK := Lib.hid (hK.out.setCell (p := ⟨B9, a.toNat, none⟩) (by show w.heap.size ≤ B9; omega) (.int .u32 X))
 clear hI hR
 generalize World.setCell _ _ _ = w5 at *
 go_wp2_with (first
  | (with_reducible refine load_has (o := ⟨some 194, _, _, _, _, _⟩) rfl 48 _ rfl _ rfl hT.out Tryz.underlying48 rfl (A.info25 _) ?_)
  | (with_reducible refine store_has (o := ⟨none, Op.store 48 (.tmp 4) _, _, _, _, _⟩) rfl 48 _ _ rfl _ _ rfl rfl hX.out (A.info25 _) (by kernel_rfl) (A.one_cells _) ?_)
  | (go_at_call 50; (refine (rshow_any _ X hx0 hx1 _).mono ?_; rintro e w7 ⟨rfl, hK7⟩); (replace hX := Lib.hid (hX.out.kept hK7)); (replace hK := Lib.hid (hK.out.trans hK7)); clear hK7))
 exact bodyPost_ret (results_has2 rfl (w.heap.size + 2) rfl (hX.out.row _) Tryz.underlying48 rfl (A.info25 _)) rfl ⟨rfl, hK.out.row (by omega) _⟩
set_option maxRecDepth 100000 in
set_option maxHeartbeats 2000000 in
theorem rdo_2_1 (s : A.Regs) (a b c i bv cv X : Int) (u : Bool) (ha0 : 0 ≤ a) (ha1 : a < 16) (hb0 : 0 ≤ b) (hb1 : b < 16) (hc0 : 0 ≤ c) (hc1 : c < 16) (b0 : 0 ≤ bv) (b1 : bv < 4294967296) (n0 : 0 ≤ i % 4294967296) (n1 : i % 4294967296 < 4294967296) (hbv : s.r b.toNat = bv) (hcv : s.r c.toNat = cv) (hx0 : 0 ≤ X) (hx1 : X < 4294967296) (w : World)
 (HM : Hid (∀ w, Calls Tryz.prog 54 #[.agg #[.int .i64 2, .int .i64 1, .int .i64 a, .int .i64 b, .int .i64 c, .int .i64 i, .bool u]] w fun e w' => e = .returned (.bool true) ∧ Kept w w'))
 (HC : Hid (∀ w, Calls Tryz.prog 56 #[.int .i64 1, .int .u32 bv, .int .u32 (i % 4294967296)] w fun e w' => e = .returned (.int .u32 X) ∧ w = w')) :
 Calls Tryz.prog 33 #[.agg (A.cells s), .agg #[.int .i64 2, .int .i64 1, .int .i64 a, .int .i64 b, .int .i64 c, .int .i64 i, .bool u]] w fun e w' => e = .returned (.tuple #[.agg (A.cells (A.show' (A.set (s) a.toNat X) X)), .int .i64 0]) ∧ Kept w w' := by
 go_enter Tryz.func33, Tryz.ntmps33
 go_wp2_with fail
 refine (HM.out _).mono ?_; rintro e w2 ⟨rfl, hK2⟩
 have hX : Has (w.heap.size + 2) (A.cells A.none') 48 w2 := (Has.new2 _ _ _ _ _).kept hK2
 have hR : Has w.heap.size (A.cells s) 48 w2 := (((Has.new _ _ _).alloc _).alloc _).kept hK2
 have hI := ((Has.new1 _ _ _ _).alloc _).kept hK2
 have hK := ((((Kept.refl w).alloc _ _).alloc _ _).alloc _ _).trans hK2
 have hl := hX.lt
 clear hK2
 have q0 := hI.cell 0 _ rfl
 have q3 := hI.cell 3 _ rfl
 have q4 := hI.cell 4 _ rfl
 have q5 := hI.cell 5 _ rfl
 have qb := hR.cell b.toNat _ (A.cell_r s b.toNat (by omega))
 have qc := hR.cell c.toNat _ (A.cell_r s c.toNat (by omega))
 rw [hbv] at qb
 rw [hcv] at qc
 replace hX := Lib.hid hX
 replace hR := Lib.hid hR
 replace hI := Lib.hid hI
 replace hK := Lib.hid hK
 go_upto_region 14 with (first
  | (with_reducible refine load_has (o := ⟨some 48, _, _, _, _, _⟩) rfl 48 _ rfl _ rfl hR.out Tryz.underlying48 rfl (A.info25 _) ?_)
  | (with_reducible refine store_last (o := ⟨none, Op.store 48 (.tmp 9) _, _, _, _, _⟩) rfl 48 _ _ rfl _ _ rfl rfl rfl (A.info25 _) (by kernel_rfl) (A.one_cells _) ?_))
 clear q0 q3 q4 q5 qb qc
 replace hX := hX.out.alloc (.cells (A.cells s) 48)
 replace hR := hR.out.alloc (.cells (A.cells s) 48)
 replace hI := hI.out.alloc (.cells (A.cells s) 48)
 replace hK := hK.out.alloc (A.cells s) 48
 have hT := Has.new (A.cells s) 48 w2
 generalize w2.heap.size = B9 at *
 generalize w2.alloc _ = w3 at *
 have q0 := hI.cell 0 _ rfl
 have q1 := hI.cell 1 _ rfl
 have q6 := hI.cell 6 _ rfl
 have qh := hR.cell 16 _ (A.cell_h s)
 have qq := hR.cell 19 _ (A.cell_c s)
 have t16 := hT.cell 16 _ (A.cell_h s)
 have t19 := hT.cell 19 _ (A.cell_c s)
 have t20 := hT.cell 20 _ (A.cell_v s)
 have f16 := hT.free 16
 have f19 := hT.free 19
 have f20 := hT.free 20
 replace hX := Lib.hid hX
 replace hR := Lib.hid hR
 replace hI := Lib.hid hI
 replace hK := Lib.hid hK
 replace hT := Lib.hid hT
 go_upto_region 38 with (go_at_call 56; refine (HC.out _).mono ?_; rintro e w4 ⟨rfl, rfl⟩)
 clear q0 q1 q6 qh qq t16 t19 t20 f16 f19 f20
 have q2 := hI.out.cell 2 _ rfl
 have ta := hT.out.cell a.toNat _ (A.cell_r (s) a.toNat (by omega))
 have fa := hT.out.free a.toNat
 go_upto_region 39 with (fail)
 clear q2 ta fa
 replace hT := Lib.hid (hT.out.set a.toNat (.int .u32 X))
 rw [A.set_r (s) a.toNat (by omega) X] at hT
 replace hX := Lib.hid (hX.out.other (p := ⟨B9, a.toNat, none⟩) (Nat.ne_of_lt hl) (.int .u32 X))
 replace hK := Lib.hid (hK.out.setCell (p := ⟨B9, a.toNat, none⟩) (by show w.heap.size ≤ B9; omega) (.int .u32 X))
 clear hI hR
 generalize World.setCell _ _ _ = w5 at *
 go_wp2_with (first
  | (with_reducible refine load_has (o := ⟨some 194, _, _, _, _, _⟩) rfl 48 _ rfl _ rfl hT.out Tryz.underlying48 rfl (A.info25 _) ?_)
  | (with_reducible refine store_has (o := ⟨none, Op.store 48 (.tmp 4) _, _, _, _, _⟩) rfl 48 _ _ rfl _ _ rfl rfl hX.out (A.info25 _) (by kernel_rfl) (A.one_cells _) ?_)
  | (go_at_call 50; (refine (rshow_any _ X hx0 hx1 _).mono ?_; rintro e w7 ⟨rfl, hK7⟩); (replace hX := Lib.hid (hX.out.kept hK7)); (replace hK := Lib.hid (hK.out.trans hK7)); clear hK7))
 exact bodyPost_ret (results_has2 rfl (w.heap.size + 2) rfl (hX.out.row _) Tryz.underlying48 rfl (A.info25 _)) rfl ⟨rfl, hK.out.row (by omega) _⟩
set_option maxRecDepth 100000 in
set_option maxHeartbeats 2000000 in
theorem rdo_2_2 (s : A.Regs) (a b c i bv cv X : Int) (u : Bool) (ha0 : 0 ≤ a) (ha1 : a < 16) (hb0 : 0 ≤ b) (hb1 : b < 16) (hc0 : 0 ≤ c) (hc1 : c < 16) (b0 : 0 ≤ bv) (b1 : bv < 4294967296) (n0 : 0 ≤ i % 4294967296) (n1 : i % 4294967296 < 4294967296) (hbv : s.r b.toNat = bv) (hcv : s.r c.toNat = cv) (hx0 : 0 ≤ X) (hx1 : X < 4294967296) (w : World)
 (HM : Hid (∀ w, Calls Tryz.prog 54 #[.agg #[.int .i64 2, .int .i64 2, .int .i64 a, .int .i64 b, .int .i64 c, .int .i64 i, .bool u]] w fun e w' => e = .returned (.bool true) ∧ Kept w w'))
 (HC : Hid (∀ w, Calls Tryz.prog 56 #[.int .i64 2, .int .u32 bv, .int .u32 (i % 4294967296)] w fun e w' => e = .returned (.int .u32 X) ∧ w = w')) :
 Calls Tryz.prog 33 #[.agg (A.cells s), .agg #[.int .i64 2, .int .i64 2, .int .i64 a, .int .i64 b, .int .i64 c, .int .i64 i, .bool u]] w fun e w' => e = .returned (.tuple #[.agg (A.cells (A.show' (A.set (s) a.toNat X) X)), .int .i64 0]) ∧ Kept w w' := by
 go_enter Tryz.func33, Tryz.ntmps33
 go_wp2_with fail
 refine (HM.out _).mono ?_; rintro e w2 ⟨rfl, hK2⟩
 have hX : Has (w.heap.size + 2) (A.cells A.none') 48 w2 := (Has.new2 _ _ _ _ _).kept hK2
 have hR : Has w.heap.size (A.cells s) 48 w2 := (((Has.new _ _ _).alloc _).alloc _).kept hK2
 have hI := ((Has.new1 _ _ _ _).alloc _).kept hK2
 have hK := ((((Kept.refl w).alloc _ _).alloc _ _).alloc _ _).trans hK2
 have hl := hX.lt
 clear hK2
 have q0 := hI.cell 0 _ rfl
 have q3 := hI.cell 3 _ rfl
 have q4 := hI.cell 4 _ rfl
 have q5 := hI.cell 5 _ rfl
 have qb := hR.cell b.toNat _ (A.cell_r s b.toNat (by omega))
 have qc := hR.cell c.toNat _ (A.cell_r s c.toNat (by omega))
 rw [hbv] at qb
 rw [hcv] at qc
 replace hX := Lib.hid hX
 replace hR := Lib.hid hR
 replace hI := Lib.hid hI
 replace hK := Lib.hid hK
 go_upto_region 14 with (first
  | (with_reducible refine load_has (o := ⟨some 48, _, _, _, _, _⟩) rfl 48 _ rfl _ rfl hR.out Tryz.underlying48 rfl (A.info25 _) ?_)
  | (with_reducible refine store_last (o := ⟨none, Op.store 48 (.tmp 9) _, _, _, _, _⟩) rfl 48 _ _ rfl _ _ rfl rfl rfl (A.info25 _) (by kernel_rfl) (A.one_cells _) ?_))
 clear q0 q3 q4 q5 qb qc
 replace hX := hX.out.alloc (.cells (A.cells s) 48)
 replace hR := hR.out.alloc (.cells (A.cells s) 48)
 replace hI := hI.out.alloc (.cells (A.cells s) 48)
 replace hK := hK.out.alloc (A.cells s) 48
 have hT := Has.new (A.cells s) 48 w2
 generalize w2.heap.size = B9 at *
 generalize w2.alloc _ = w3 at *
 have q0 := hI.cell 0 _ rfl
 have q1 := hI.cell 1 _ rfl
 have q6 := hI.cell 6 _ rfl
 have qh := hR.cell 16 _ (A.cell_h s)
 have qq := hR.cell 19 _ (A.cell_c s)
 have t16 := hT.cell 16 _ (A.cell_h s)
 have t19 := hT.cell 19 _ (A.cell_c s)
 have t20 := hT.cell 20 _ (A.cell_v s)
 have f16 := hT.free 16
 have f19 := hT.free 19
 have f20 := hT.free 20
 replace hX := Lib.hid hX
 replace hR := Lib.hid hR
 replace hI := Lib.hid hI
 replace hK := Lib.hid hK
 replace hT := Lib.hid hT
 go_upto_region 38 with (go_at_call 56; refine (HC.out _).mono ?_; rintro e w4 ⟨rfl, rfl⟩)
 clear q0 q1 q6 qh qq t16 t19 t20 f16 f19 f20
 have q2 := hI.out.cell 2 _ rfl
 have ta := hT.out.cell a.toNat _ (A.cell_r (s) a.toNat (by omega))
 have fa := hT.out.free a.toNat
 go_upto_region 39 with (fail)
 clear q2 ta fa
 replace hT := Lib.hid (hT.out.set a.toNat (.int .u32 X))
 rw [A.set_r (s) a.toNat (by omega) X] at hT
 replace hX := Lib.hid (hX.out.other (p := ⟨B9, a.toNat, none⟩) (Nat.ne_of_lt hl) (.int .u32 X))
 replace hK := Lib.hid (hK.out.setCell (p := ⟨B9, a.toNat, none⟩) (by show w.heap.size ≤ B9; omega) (.int .u32 X))
 clear hI hR
 generalize World.setCell _ _ _ = w5 at *
 go_wp2_with (first
  | (with_reducible refine load_has (o := ⟨some 194, _, _, _, _, _⟩) rfl 48 _ rfl _ rfl hT.out Tryz.underlying48 rfl (A.info25 _) ?_)
  | (with_reducible refine store_has (o := ⟨none, Op.store 48 (.tmp 4) _, _, _, _, _⟩) rfl 48 _ _ rfl _ _ rfl rfl hX.out (A.info25 _) (by kernel_rfl) (A.one_cells _) ?_)
  | (go_at_call 50; (refine (rshow_any _ X hx0 hx1 _).mono ?_; rintro e w7 ⟨rfl, hK7⟩); (replace hX := Lib.hid (hX.out.kept hK7)); (replace hK := Lib.hid (hK.out.trans hK7)); clear hK7))
 exact bodyPost_ret (results_has2 rfl (w.heap.size + 2) rfl (hX.out.row _) Tryz.underlying48 rfl (A.info25 _)) rfl ⟨rfl, hK.out.row (by omega) _⟩
set_option maxRecDepth 100000 in
set_option maxHeartbeats 2000000 in
theorem rdo_2_3 (s : A.Regs) (a b c i bv cv X : Int) (u : Bool) (ha0 : 0 ≤ a) (ha1 : a < 16) (hb0 : 0 ≤ b) (hb1 : b < 16) (hc0 : 0 ≤ c) (hc1 : c < 16) (b0 : 0 ≤ bv) (b1 : bv < 4294967296) (n0 : 0 ≤ i % 4294967296) (n1 : i % 4294967296 < 4294967296) (hbv : s.r b.toNat = bv) (hcv : s.r c.toNat = cv) (hx0 : 0 ≤ X) (hx1 : X < 4294967296) (w : World)
 (HM : Hid (∀ w, Calls Tryz.prog 54 #[.agg #[.int .i64 2, .int .i64 3, .int .i64 a, .int .i64 b, .int .i64 c, .int .i64 i, .bool u]] w fun e w' => e = .returned (.bool true) ∧ Kept w w'))
 (HC : Hid (∀ w, Calls Tryz.prog 56 #[.int .i64 3, .int .u32 bv, .int .u32 (i % 4294967296)] w fun e w' => e = .returned (.int .u32 X) ∧ w = w')) :
 Calls Tryz.prog 33 #[.agg (A.cells s), .agg #[.int .i64 2, .int .i64 3, .int .i64 a, .int .i64 b, .int .i64 c, .int .i64 i, .bool u]] w fun e w' => e = .returned (.tuple #[.agg (A.cells (A.show' (A.set (s) a.toNat X) X)), .int .i64 0]) ∧ Kept w w' := by
 go_enter Tryz.func33, Tryz.ntmps33
 go_wp2_with fail
 refine (HM.out _).mono ?_; rintro e w2 ⟨rfl, hK2⟩
 have hX : Has (w.heap.size + 2) (A.cells A.none') 48 w2 := (Has.new2 _ _ _ _ _).kept hK2
 have hR : Has w.heap.size (A.cells s) 48 w2 := (((Has.new _ _ _).alloc _).alloc _).kept hK2
 have hI := ((Has.new1 _ _ _ _).alloc _).kept hK2
 have hK := ((((Kept.refl w).alloc _ _).alloc _ _).alloc _ _).trans hK2
 have hl := hX.lt
 clear hK2
 have q0 := hI.cell 0 _ rfl
 have q3 := hI.cell 3 _ rfl
 have q4 := hI.cell 4 _ rfl
 have q5 := hI.cell 5 _ rfl
 have qb := hR.cell b.toNat _ (A.cell_r s b.toNat (by omega))
 have qc := hR.cell c.toNat _ (A.cell_r s c.toNat (by omega))
 rw [hbv] at qb
 rw [hcv] at qc
 replace hX := Lib.hid hX
 replace hR := Lib.hid hR
 replace hI := Lib.hid hI
 replace hK := Lib.hid hK
 go_upto_region 14 with (first
  | (with_reducible refine load_has (o := ⟨some 48, _, _, _, _, _⟩) rfl 48 _ rfl _ rfl hR.out Tryz.underlying48 rfl (A.info25 _) ?_)
  | (with_reducible refine store_last (o := ⟨none, Op.store 48 (.tmp 9) _, _, _, _, _⟩) rfl 48 _ _ rfl _ _ rfl rfl rfl (A.info25 _) (by kernel_rfl) (A.one_cells _) ?_))
 clear q0 q3 q4 q5 qb qc
 replace hX := hX.out.alloc (.cells (A.cells s) 48)
 replace hR := hR.out.alloc (.cells (A.cells s) 48)
 replace hI := hI.out.alloc (.cells (A.cells s) 48)
 replace hK := hK.out.alloc (A.cells s) 48
 have hT := Has.new (A.cells s) 48 w2
 generalize w2.heap.size = B9 at *
 generalize w2.alloc _ = w3 at *
 have q0 := hI.cell 0 _ rfl
 have q1 := hI.cell 1 _ rfl
 have q6 := hI.cell 6 _ rfl
 have qh := hR.cell 16 _ (A.cell_h s)
 have qq := hR.cell 19 _ (A.cell_c s)
 have t16 := hT.cell 16 _ (A.cell_h s)
 have t19 := hT.cell 19 _ (A.cell_c s)
 have t20 := hT.cell 20 _ (A.cell_v s)
 have f16 := hT.free 16
 have f19 := hT.free 19
 have f20 := hT.free 20
 replace hX := Lib.hid hX
 replace hR := Lib.hid hR
 replace hI := Lib.hid hI
 replace hK := Lib.hid hK
 replace hT := Lib.hid hT
 go_upto_region 38 with (go_at_call 56; refine (HC.out _).mono ?_; rintro e w4 ⟨rfl, rfl⟩)
 clear q0 q1 q6 qh qq t16 t19 t20 f16 f19 f20
 have q2 := hI.out.cell 2 _ rfl
 have ta := hT.out.cell a.toNat _ (A.cell_r (s) a.toNat (by omega))
 have fa := hT.out.free a.toNat
 go_upto_region 39 with (fail)
 clear q2 ta fa
 replace hT := Lib.hid (hT.out.set a.toNat (.int .u32 X))
 rw [A.set_r (s) a.toNat (by omega) X] at hT
 replace hX := Lib.hid (hX.out.other (p := ⟨B9, a.toNat, none⟩) (Nat.ne_of_lt hl) (.int .u32 X))
 replace hK := Lib.hid (hK.out.setCell (p := ⟨B9, a.toNat, none⟩) (by show w.heap.size ≤ B9; omega) (.int .u32 X))
 clear hI hR
 generalize World.setCell _ _ _ = w5 at *
 go_wp2_with (first
  | (with_reducible refine load_has (o := ⟨some 194, _, _, _, _, _⟩) rfl 48 _ rfl _ rfl hT.out Tryz.underlying48 rfl (A.info25 _) ?_)
  | (with_reducible refine store_has (o := ⟨none, Op.store 48 (.tmp 4) _, _, _, _, _⟩) rfl 48 _ _ rfl _ _ rfl rfl hX.out (A.info25 _) (by kernel_rfl) (A.one_cells _) ?_)
  | (go_at_call 50; (refine (rshow_any _ X hx0 hx1 _).mono ?_; rintro e w7 ⟨rfl, hK7⟩); (replace hX := Lib.hid (hX.out.kept hK7)); (replace hK := Lib.hid (hK.out.trans hK7)); clear hK7))
 exact bodyPost_ret (results_has2 rfl (w.heap.size + 2) rfl (hX.out.row _) Tryz.underlying48 rfl (A.info25 _)) rfl ⟨rfl, hK.out.row (by omega) _⟩
set_option maxRecDepth 100000 in
set_option maxHeartbeats 2000000 in
theorem rdo_2_4 (s : A.Regs) (a b c i bv cv X : Int) (u : Bool) (ha0 : 0 ≤ a) (ha1 : a < 16) (hb0 : 0 ≤ b) (hb1 : b < 16) (hc0 : 0 ≤ c) (hc1 : c < 16) (b0 : 0 ≤ bv) (b1 : bv < 4294967296) (n0 : 0 ≤ i % 4294967296) (n1 : i % 4294967296 < 4294967296) (hbv : s.r b.toNat = bv) (hcv : s.r c.toNat = cv) (hx0 : 0 ≤ X) (hx1 : X < 4294967296) (w : World)
 (HM : Hid (∀ w, Calls Tryz.prog 54 #[.agg #[.int .i64 2, .int .i64 4, .int .i64 a, .int .i64 b, .int .i64 c, .int .i64 i, .bool u]] w fun e w' => e = .returned (.bool true) ∧ Kept w w'))
 (HE : Hid (bits BinOp.and IntKind.u32 bv (i % 4294967296) = X)) :
 Calls Tryz.prog 33 #[.agg (A.cells s), .agg #[.int .i64 2, .int .i64 4, .int .i64 a, .int .i64 b, .int .i64 c, .int .i64 i, .bool u]] w fun e w' => e = .returned (.tuple #[.agg (A.cells (A.show' (A.set (s) a.toNat X) X)), .int .i64 0]) ∧ Kept w w' := by
 go_enter Tryz.func33, Tryz.ntmps33
 go_wp2_with fail
 refine (HM.out _).mono ?_; rintro e w2 ⟨rfl, hK2⟩
 have hX : Has (w.heap.size + 2) (A.cells A.none') 48 w2 := (Has.new2 _ _ _ _ _).kept hK2
 have hR : Has w.heap.size (A.cells s) 48 w2 := (((Has.new _ _ _).alloc _).alloc _).kept hK2
 have hI := ((Has.new1 _ _ _ _).alloc _).kept hK2
 have hK := ((((Kept.refl w).alloc _ _).alloc _ _).alloc _ _).trans hK2
 have hl := hX.lt
 clear hK2
 have q0 := hI.cell 0 _ rfl
 have q3 := hI.cell 3 _ rfl
 have q4 := hI.cell 4 _ rfl
 have q5 := hI.cell 5 _ rfl
 have qb := hR.cell b.toNat _ (A.cell_r s b.toNat (by omega))
 have qc := hR.cell c.toNat _ (A.cell_r s c.toNat (by omega))
 rw [hbv] at qb
 rw [hcv] at qc
 replace hX := Lib.hid hX
 replace hR := Lib.hid hR
 replace hI := Lib.hid hI
 replace hK := Lib.hid hK
 go_upto_region 14 with (first
  | (with_reducible refine load_has (o := ⟨some 48, _, _, _, _, _⟩) rfl 48 _ rfl _ rfl hR.out Tryz.underlying48 rfl (A.info25 _) ?_)
  | (with_reducible refine store_last (o := ⟨none, Op.store 48 (.tmp 9) _, _, _, _, _⟩) rfl 48 _ _ rfl _ _ rfl rfl rfl (A.info25 _) (by kernel_rfl) (A.one_cells _) ?_))
 clear q0 q3 q4 q5 qb qc
 replace hX := hX.out.alloc (.cells (A.cells s) 48)
 replace hR := hR.out.alloc (.cells (A.cells s) 48)
 replace hI := hI.out.alloc (.cells (A.cells s) 48)
 replace hK := hK.out.alloc (A.cells s) 48
 have hT := Has.new (A.cells s) 48 w2
 generalize w2.heap.size = B9 at *
 generalize w2.alloc _ = w3 at *
 have q0 := hI.cell 0 _ rfl
 have q1 := hI.cell 1 _ rfl
 have q6 := hI.cell 6 _ rfl
 have qh := hR.cell 16 _ (A.cell_h s)
 have qq := hR.cell 19 _ (A.cell_c s)
 have t16 := hT.cell 16 _ (A.cell_h s)
 have t19 := hT.cell 19 _ (A.cell_c s)
 have t20 := hT.cell 20 _ (A.cell_v s)
 have f16 := hT.free 16
 have f19 := hT.free 19
 have f20 := hT.free 20
 replace hX := Lib.hid hX
 replace hR := Lib.hid hR
 replace hI := Lib.hid hI
 replace hK := Lib.hid hK
 replace hT := Lib.hid hT
 go_upto_region 38 with (fail)
 rw [HE.out]
 clear q0 q1 q6 qh qq t16 t19 t20 f16 f19 f20
 have q2 := hI.out.cell 2 _ rfl
 have ta := hT.out.cell a.toNat _ (A.cell_r (s) a.toNat (by omega))
 have fa := hT.out.free a.toNat
 go_upto_region 39 with (fail)
 clear q2 ta fa
 replace hT := Lib.hid (hT.out.set a.toNat (.int .u32 X))
 rw [A.set_r (s) a.toNat (by omega) X] at hT
 replace hX := Lib.hid (hX.out.other (p := ⟨B9, a.toNat, none⟩) (Nat.ne_of_lt hl) (.int .u32 X))
 replace hK := Lib.hid (hK.out.setCell (p := ⟨B9, a.toNat, none⟩) (by show w.heap.size ≤ B9; omega) (.int .u32 X))
 clear hI hR
 generalize World.setCell _ _ _ = w5 at *
 go_wp2_with (first
  | (with_reducible refine load_has (o := ⟨some 194, _, _, _, _, _⟩) rfl 48 _ rfl _ rfl hT.out Tryz.underlying48 rfl (A.info25 _) ?_)
  | (with_reducible refine store_has (o := ⟨none, Op.store 48 (.tmp 4) _, _, _, _, _⟩) rfl 48 _ _ rfl _ _ rfl rfl hX.out (A.info25 _) (by kernel_rfl) (A.one_cells _) ?_)
  | (go_at_call 50; (refine (rshow_any _ X hx0 hx1 _).mono ?_; rintro e w7 ⟨rfl, hK7⟩); (replace hX := Lib.hid (hX.out.kept hK7)); (replace hK := Lib.hid (hK.out.trans hK7)); clear hK7))
 exact bodyPost_ret (results_has2 rfl (w.heap.size + 2) rfl (hX.out.row _) Tryz.underlying48 rfl (A.info25 _)) rfl ⟨rfl, hK.out.row (by omega) _⟩
set_option maxRecDepth 100000 in
set_option maxHeartbeats 2000000 in
theorem rdo_2_5 (s : A.Regs) (a b c i bv cv X : Int) (u : Bool) (ha0 : 0 ≤ a) (ha1 : a < 16) (hb0 : 0 ≤ b) (hb1 : b < 16) (hc0 : 0 ≤ c) (hc1 : c < 16) (b0 : 0 ≤ bv) (b1 : bv < 4294967296) (n0 : 0 ≤ i % 4294967296) (n1 : i % 4294967296 < 4294967296) (hbv : s.r b.toNat = bv) (hcv : s.r c.toNat = cv) (hx0 : 0 ≤ X) (hx1 : X < 4294967296) (w : World)
 (HM : Hid (∀ w, Calls Tryz.prog 54 #[.agg #[.int .i64 2, .int .i64 5, .int .i64 a, .int .i64 b, .int .i64 c, .int .i64 i, .bool u]] w fun e w' => e = .returned (.bool true) ∧ Kept w w'))
 (HE : Hid (bits BinOp.and IntKind.u32 bv (4294967295 - (i % 4294967296)) = X)) :
 Calls Tryz.prog 33 #[.agg (A.cells s), .agg #[.int .i64 2, .int .i64 5, .int .i64 a, .int .i64 b, .int .i64 c, .int .i64 i, .bool u]] w fun e w' => e = .returned (.tuple #[.agg (A.cells (A.show' (A.set (s) a.toNat X) X)), .int .i64 0]) ∧ Kept w w' := by
 go_enter Tryz.func33, Tryz.ntmps33
 go_wp2_with fail
 refine (HM.out _).mono ?_; rintro e w2 ⟨rfl, hK2⟩
 have hX : Has (w.heap.size + 2) (A.cells A.none') 48 w2 := (Has.new2 _ _ _ _ _).kept hK2
 have hR : Has w.heap.size (A.cells s) 48 w2 := (((Has.new _ _ _).alloc _).alloc _).kept hK2
 have hI := ((Has.new1 _ _ _ _).alloc _).kept hK2
 have hK := ((((Kept.refl w).alloc _ _).alloc _ _).alloc _ _).trans hK2
 have hl := hX.lt
 clear hK2
 have q0 := hI.cell 0 _ rfl
 have q3 := hI.cell 3 _ rfl
 have q4 := hI.cell 4 _ rfl
 have q5 := hI.cell 5 _ rfl
 have qb := hR.cell b.toNat _ (A.cell_r s b.toNat (by omega))
 have qc := hR.cell c.toNat _ (A.cell_r s c.toNat (by omega))
 rw [hbv] at qb
 rw [hcv] at qc
 replace hX := Lib.hid hX
 replace hR := Lib.hid hR
 replace hI := Lib.hid hI
 replace hK := Lib.hid hK
 go_upto_region 14 with (first
  | (with_reducible refine load_has (o := ⟨some 48, _, _, _, _, _⟩) rfl 48 _ rfl _ rfl hR.out Tryz.underlying48 rfl (A.info25 _) ?_)
  | (with_reducible refine store_last (o := ⟨none, Op.store 48 (.tmp 9) _, _, _, _, _⟩) rfl 48 _ _ rfl _ _ rfl rfl rfl (A.info25 _) (by kernel_rfl) (A.one_cells _) ?_))
 clear q0 q3 q4 q5 qb qc
 replace hX := hX.out.alloc (.cells (A.cells s) 48)
 replace hR := hR.out.alloc (.cells (A.cells s) 48)
 replace hI := hI.out.alloc (.cells (A.cells s) 48)
 replace hK := hK.out.alloc (A.cells s) 48
 have hT := Has.new (A.cells s) 48 w2
 generalize w2.heap.size = B9 at *
 generalize w2.alloc _ = w3 at *
 have q0 := hI.cell 0 _ rfl
 have q1 := hI.cell 1 _ rfl
 have q6 := hI.cell 6 _ rfl
 have qh := hR.cell 16 _ (A.cell_h s)
 have qq := hR.cell 19 _ (A.cell_c s)
 have t16 := hT.cell 16 _ (A.cell_h s)
 have t19 := hT.cell 19 _ (A.cell_c s)
 have t20 := hT.cell 20 _ (A.cell_v s)
 have f16 := hT.free 16
 have f19 := hT.free 19
 have f20 := hT.free 20
 replace hX := Lib.hid hX
 replace hR := Lib.hid hR
 replace hI := Lib.hid hI
 replace hK := Lib.hid hK
 replace hT := Lib.hid hT
 go_upto_region 38 with (fail)
 rw [HE.out]
 clear q0 q1 q6 qh qq t16 t19 t20 f16 f19 f20
 have q2 := hI.out.cell 2 _ rfl
 have ta := hT.out.cell a.toNat _ (A.cell_r (s) a.toNat (by omega))
 have fa := hT.out.free a.toNat
 go_upto_region 39 with (fail)
 clear q2 ta fa
 replace hT := Lib.hid (hT.out.set a.toNat (.int .u32 X))
 rw [A.set_r (s) a.toNat (by omega) X] at hT
 replace hX := Lib.hid (hX.out.other (p := ⟨B9, a.toNat, none⟩) (Nat.ne_of_lt hl) (.int .u32 X))
 replace hK := Lib.hid (hK.out.setCell (p := ⟨B9, a.toNat, none⟩) (by show w.heap.size ≤ B9; omega) (.int .u32 X))
 clear hI hR
 generalize World.setCell _ _ _ = w5 at *
 go_wp2_with (first
  | (with_reducible refine load_has (o := ⟨some 194, _, _, _, _, _⟩) rfl 48 _ rfl _ rfl hT.out Tryz.underlying48 rfl (A.info25 _) ?_)
  | (with_reducible refine store_has (o := ⟨none, Op.store 48 (.tmp 4) _, _, _, _, _⟩) rfl 48 _ _ rfl _ _ rfl rfl hX.out (A.info25 _) (by kernel_rfl) (A.one_cells _) ?_)
  | (go_at_call 50; (refine (rshow_any _ X hx0 hx1 _).mono ?_; rintro e w7 ⟨rfl, hK7⟩); (replace hX := Lib.hid (hX.out.kept hK7)); (replace hK := Lib.hid (hK.out.trans hK7)); clear hK7))
 exact bodyPost_ret (results_has2 rfl (w.heap.size + 2) rfl (hX.out.row _) Tryz.underlying48 rfl (A.info25 _)) rfl ⟨rfl, hK.out.row (by omega) _⟩
set_option maxRecDepth 100000 in
set_option maxHeartbeats 2000000 in
theorem rdo_2_6 (s : A.Regs) (a b c i bv cv X : Int) (u : Bool) (ha0 : 0 ≤ a) (ha1 : a < 16) (hb0 : 0 ≤ b) (hb1 : b < 16) (hc0 : 0 ≤ c) (hc1 : c < 16) (b0 : 0 ≤ bv) (b1 : bv < 4294967296) (n0 : 0 ≤ i % 4294967296) (n1 : i % 4294967296 < 4294967296) (hbv : s.r b.toNat = bv) (hcv : s.r c.toNat = cv) (hx0 : 0 ≤ X) (hx1 : X < 4294967296) (w : World)
 (HM : Hid (∀ w, Calls Tryz.prog 54 #[.agg #[.int .i64 2, .int .i64 6, .int .i64 a, .int .i64 b, .int .i64 c, .int .i64 i, .bool u]] w fun e w' => e = .returned (.bool true) ∧ Kept w w'))
 (HE : Hid (bits BinOp.or IntKind.u32 bv (i % 4294967296) = X)) :
 Calls Tryz.prog 33 #[.agg (A.cells s), .agg #[.int .i64 2, .int .i64 6, .int .i64 a, .int .i64 b, .int .i64 c, .int .i64 i, .bool u]] w fun e w' => e = .returned (.tuple #[.agg (A.cells (A.show' (A.set (s) a.toNat X) X)), .int .i64 0]) ∧ Kept w w' := by
 go_enter Tryz.func33, Tryz.ntmps33
 go_wp2_with fail
 refine (HM.out _).mono ?_; rintro e w2 ⟨rfl, hK2⟩
 have hX : Has (w.heap.size + 2) (A.cells A.none') 48 w2 := (Has.new2 _ _ _ _ _).kept hK2
 have hR : Has w.heap.size (A.cells s) 48 w2 := (((Has.new _ _ _).alloc _).alloc _).kept hK2
 have hI := ((Has.new1 _ _ _ _).alloc _).kept hK2
 have hK := ((((Kept.refl w).alloc _ _).alloc _ _).alloc _ _).trans hK2
 have hl := hX.lt
 clear hK2
 have q0 := hI.cell 0 _ rfl
 have q3 := hI.cell 3 _ rfl
 have q4 := hI.cell 4 _ rfl
 have q5 := hI.cell 5 _ rfl
 have qb := hR.cell b.toNat _ (A.cell_r s b.toNat (by omega))
 have qc := hR.cell c.toNat _ (A.cell_r s c.toNat (by omega))
 rw [hbv] at qb
 rw [hcv] at qc
 replace hX := Lib.hid hX
 replace hR := Lib.hid hR
 replace hI := Lib.hid hI
 replace hK := Lib.hid hK
 go_upto_region 14 with (first
  | (with_reducible refine load_has (o := ⟨some 48, _, _, _, _, _⟩) rfl 48 _ rfl _ rfl hR.out Tryz.underlying48 rfl (A.info25 _) ?_)
  | (with_reducible refine store_last (o := ⟨none, Op.store 48 (.tmp 9) _, _, _, _, _⟩) rfl 48 _ _ rfl _ _ rfl rfl rfl (A.info25 _) (by kernel_rfl) (A.one_cells _) ?_))
 clear q0 q3 q4 q5 qb qc
 replace hX := hX.out.alloc (.cells (A.cells s) 48)
 replace hR := hR.out.alloc (.cells (A.cells s) 48)
 replace hI := hI.out.alloc (.cells (A.cells s) 48)
 replace hK := hK.out.alloc (A.cells s) 48
 have hT := Has.new (A.cells s) 48 w2
 generalize w2.heap.size = B9 at *
 generalize w2.alloc _ = w3 at *
 have q0 := hI.cell 0 _ rfl
 have q1 := hI.cell 1 _ rfl
 have q6 := hI.cell 6 _ rfl
 have qh := hR.cell 16 _ (A.cell_h s)
 have qq := hR.cell 19 _ (A.cell_c s)
 have t16 := hT.cell 16 _ (A.cell_h s)
 have t19 := hT.cell 19 _ (A.cell_c s)
 have t20 := hT.cell 20 _ (A.cell_v s)
 have f16 := hT.free 16
 have f19 := hT.free 19
 have f20 := hT.free 20
 replace hX := Lib.hid hX
 replace hR := Lib.hid hR
 replace hI := Lib.hid hI
 replace hK := Lib.hid hK
 replace hT := Lib.hid hT
 go_upto_region 38 with (fail)
 rw [HE.out]
 clear q0 q1 q6 qh qq t16 t19 t20 f16 f19 f20
 have q2 := hI.out.cell 2 _ rfl
 have ta := hT.out.cell a.toNat _ (A.cell_r (s) a.toNat (by omega))
 have fa := hT.out.free a.toNat
 go_upto_region 39 with (fail)
 clear q2 ta fa
 replace hT := Lib.hid (hT.out.set a.toNat (.int .u32 X))
 rw [A.set_r (s) a.toNat (by omega) X] at hT
 replace hX := Lib.hid (hX.out.other (p := ⟨B9, a.toNat, none⟩) (Nat.ne_of_lt hl) (.int .u32 X))
 replace hK := Lib.hid (hK.out.setCell (p := ⟨B9, a.toNat, none⟩) (by show w.heap.size ≤ B9; omega) (.int .u32 X))
 clear hI hR
 generalize World.setCell _ _ _ = w5 at *
 go_wp2_with (first
  | (with_reducible refine load_has (o := ⟨some 194, _, _, _, _, _⟩) rfl 48 _ rfl _ rfl hT.out Tryz.underlying48 rfl (A.info25 _) ?_)
  | (with_reducible refine store_has (o := ⟨none, Op.store 48 (.tmp 4) _, _, _, _, _⟩) rfl 48 _ _ rfl _ _ rfl rfl hX.out (A.info25 _) (by kernel_rfl) (A.one_cells _) ?_)
  | (go_at_call 50; (refine (rshow_any _ X hx0 hx1 _).mono ?_; rintro e w7 ⟨rfl, hK7⟩); (replace hX := Lib.hid (hX.out.kept hK7)); (replace hK := Lib.hid (hK.out.trans hK7)); clear hK7))
 exact bodyPost_ret (results_has2 rfl (w.heap.size + 2) rfl (hX.out.row _) Tryz.underlying48 rfl (A.info25 _)) rfl ⟨rfl, hK.out.row (by omega) _⟩
set_option maxRecDepth 100000 in
set_option maxHeartbeats 2000000 in
theorem rdo_2_7 (s : A.Regs) (a b c i bv cv X : Int) (u : Bool) (ha0 : 0 ≤ a) (ha1 : a < 16) (hb0 : 0 ≤ b) (hb1 : b < 16) (hc0 : 0 ≤ c) (hc1 : c < 16) (b0 : 0 ≤ bv) (b1 : bv < 4294967296) (n0 : 0 ≤ i % 4294967296) (n1 : i % 4294967296 < 4294967296) (hbv : s.r b.toNat = bv) (hcv : s.r c.toNat = cv) (hx0 : 0 ≤ X) (hx1 : X < 4294967296) (w : World)
 (HM : Hid (∀ w, Calls Tryz.prog 54 #[.agg #[.int .i64 2, .int .i64 7, .int .i64 a, .int .i64 b, .int .i64 c, .int .i64 i, .bool u]] w fun e w' => e = .returned (.bool true) ∧ Kept w w'))
 (HE : Hid ((bits BinOp.or IntKind.u32 bv (i % 4294967296) - bits BinOp.and IntKind.u32 bv (i % 4294967296)) % 4294967296 = X)) :
 Calls Tryz.prog 33 #[.agg (A.cells s), .agg #[.int .i64 2, .int .i64 7, .int .i64 a, .int .i64 b, .int .i64 c, .int .i64 i, .bool u]] w fun e w' => e = .returned (.tuple #[.agg (A.cells (A.show' (A.set (s) a.toNat X) X)), .int .i64 0]) ∧ Kept w w' := by
 go_enter Tryz.func33, Tryz.ntmps33
 go_wp2_with fail
 refine (HM.out _).mono ?_; rintro e w2 ⟨rfl, hK2⟩
 have hX : Has (w.heap.size + 2) (A.cells A.none') 48 w2 := (Has.new2 _ _ _ _ _).kept hK2
 have hR : Has w.heap.size (A.cells s) 48 w2 := (((Has.new _ _ _).alloc _).alloc _).kept hK2
 have hI := ((Has.new1 _ _ _ _).alloc _).kept hK2
 have hK := ((((Kept.refl w).alloc _ _).alloc _ _).alloc _ _).trans hK2
 have hl := hX.lt
 clear hK2
 have q0 := hI.cell 0 _ rfl
 have q3 := hI.cell 3 _ rfl
 have q4 := hI.cell 4 _ rfl
 have q5 := hI.cell 5 _ rfl
 have qb := hR.cell b.toNat _ (A.cell_r s b.toNat (by omega))
 have qc := hR.cell c.toNat _ (A.cell_r s c.toNat (by omega))
 rw [hbv] at qb
 rw [hcv] at qc
 replace hX := Lib.hid hX
 replace hR := Lib.hid hR
 replace hI := Lib.hid hI
 replace hK := Lib.hid hK
 go_upto_region 14 with (first
  | (with_reducible refine load_has (o := ⟨some 48, _, _, _, _, _⟩) rfl 48 _ rfl _ rfl hR.out Tryz.underlying48 rfl (A.info25 _) ?_)
  | (with_reducible refine store_last (o := ⟨none, Op.store 48 (.tmp 9) _, _, _, _, _⟩) rfl 48 _ _ rfl _ _ rfl rfl rfl (A.info25 _) (by kernel_rfl) (A.one_cells _) ?_))
 clear q0 q3 q4 q5 qb qc
 replace hX := hX.out.alloc (.cells (A.cells s) 48)
 replace hR := hR.out.alloc (.cells (A.cells s) 48)
 replace hI := hI.out.alloc (.cells (A.cells s) 48)
 replace hK := hK.out.alloc (A.cells s) 48
 have hT := Has.new (A.cells s) 48 w2
 generalize w2.heap.size = B9 at *
 generalize w2.alloc _ = w3 at *
 have q0 := hI.cell 0 _ rfl
 have q1 := hI.cell 1 _ rfl
 have q6 := hI.cell 6 _ rfl
 have qh := hR.cell 16 _ (A.cell_h s)
 have qq := hR.cell 19 _ (A.cell_c s)
 have t16 := hT.cell 16 _ (A.cell_h s)
 have t19 := hT.cell 19 _ (A.cell_c s)
 have t20 := hT.cell 20 _ (A.cell_v s)
 have f16 := hT.free 16
 have f19 := hT.free 19
 have f20 := hT.free 20
 replace hX := Lib.hid hX
 replace hR := Lib.hid hR
 replace hI := Lib.hid hI
 replace hK := Lib.hid hK
 replace hT := Lib.hid hT
 go_upto_region 38 with (fail)
 rw [HE.out]
 clear q0 q1 q6 qh qq t16 t19 t20 f16 f19 f20
 have q2 := hI.out.cell 2 _ rfl
 have ta := hT.out.cell a.toNat _ (A.cell_r (s) a.toNat (by omega))
 have fa := hT.out.free a.toNat
 go_upto_region 39 with (fail)
 clear q2 ta fa
 replace hT := Lib.hid (hT.out.set a.toNat (.int .u32 X))
 rw [A.set_r (s) a.toNat (by omega) X] at hT
 replace hX := Lib.hid (hX.out.other (p := ⟨B9, a.toNat, none⟩) (Nat.ne_of_lt hl) (.int .u32 X))
 replace hK := Lib.hid (hK.out.setCell (p := ⟨B9, a.toNat, none⟩) (by show w.heap.size ≤ B9; omega) (.int .u32 X))
 clear hI hR
 generalize World.setCell _ _ _ = w5 at *
 go_wp2_with (first
  | (with_reducible refine load_has (o := ⟨some 194, _, _, _, _, _⟩) rfl 48 _ rfl _ rfl hT.out Tryz.underlying48 rfl (A.info25 _) ?_)
  | (with_reducible refine store_has (o := ⟨none, Op.store 48 (.tmp 4) _, _, _, _, _⟩) rfl 48 _ _ rfl _ _ rfl rfl hX.out (A.info25 _) (by kernel_rfl) (A.one_cells _) ?_)
  | (go_at_call 50; (refine (rshow_any _ X hx0 hx1 _).mono ?_; rintro e w7 ⟨rfl, hK7⟩); (replace hX := Lib.hid (hX.out.kept hK7)); (replace hK := Lib.hid (hK.out.trans hK7)); clear hK7))
 exact bodyPost_ret (results_has2 rfl (w.heap.size + 2) rfl (hX.out.row _) Tryz.underlying48 rfl (A.info25 _)) rfl ⟨rfl, hK.out.row (by omega) _⟩
set_option maxRecDepth 100000 in
set_option maxHeartbeats 2000000 in
theorem rdo_2_8t (s : A.Regs) (a b c i bv cv X : Int) (C V : Bool) (ha0 : 0 ≤ a) (ha1 : a < 16) (hb0 : 0 ≤ b) (hb1 : b < 16) (hc0 : 0 ≤ c) (hc1 : c < 16) (b0 : 0 ≤ bv) (b1 : bv < 4294967296) (n0 : 0 ≤ i % 4294967296) (n1 : i % 4294967296 < 4294967296) (hbv : s.r b.toNat = bv) (hcv : s.r c.toNat = cv) (hx0 : 0 ≤ X) (hx1 : X < 4294967296) (w : World)
 (HM : Hid (∀ w, Calls Tryz.prog 54 #[.agg #[.int .i64 2, .int .i64 8, .int .i64 a, .int .i64 b, .int .i64 c, .int .i64 i, .bool true]] w fun e w' => e = .returned (.bool true) ∧ Kept w w'))
 (HC : Hid (∀ w, Calls Tryz.prog 57 #[.int .u32 bv, .int .u32 (i % 4294967296), .bool s.c] w fun e w' => e = .returned (.tuple #[.int .u32 X, .bool C, .bool V]) ∧ w = w')) :
 Calls Tryz.prog 33 #[.agg (A.cells s), .agg #[.int .i64 2, .int .i64 8, .int .i64 a, .int .i64 b, .int .i64 c, .int .i64 i, .bool true]] w fun e w' => e = .returned (.tuple #[.agg (A.cells (A.show' (A.set (A.setV (A.setC s C) V) a.toNat X) X)), .int .i64 0]) ∧ Kept w w' := by
 go_enter Tryz.func33, Tryz.ntmps33
 go_wp2_with fail
 refine (HM.out _).mono ?_; rintro e w2 ⟨rfl, hK2⟩
 have hX : Has (w.heap.size + 2) (A.cells A.none') 48 w2 := (Has.new2 _ _ _ _ _).kept hK2
 have hR : Has w.heap.size (A.cells s) 48 w2 := (((Has.new _ _ _).alloc _).alloc _).kept hK2
 have hI := ((Has.new1 _ _ _ _).alloc _).kept hK2
 have hK := ((((Kept.refl w).alloc _ _).alloc _ _).alloc _ _).trans hK2
 have hl := hX.lt
 clear hK2
 have q0 := hI.cell 0 _ rfl
 have q3 := hI.cell 3 _ rfl
 have q4 := hI.cell 4 _ rfl
 have q5 := hI.cell 5 _ rfl
 have qb := hR.cell b.toNat _ (A.cell_r s b.toNat (by omega))
 have qc := hR.cell c.toNat _ (A.cell_r s c.toNat (by omega))
 rw [hbv] at qb
 rw [hcv] at qc
 replace hX := Lib.hid hX
 replace hR := Lib.hid hR
 replace hI := Lib.hid hI
 replace hK := Lib.hid hK
 go_upto_region 14 with (first
  | (with_reducible refine load_has (o := ⟨some 48, _, _, _, _, _⟩) rfl 48 _ rfl _ rfl hR.out Tryz.underlying48 rfl (A.info25 _) ?_)
  | (with_reducible refine store_last (o := ⟨none, Op.store 48 (.tmp 9) _, _, _, _, _⟩) rfl 48 _ _ rfl _ _ rfl rfl rfl (A.info25 _) (by kernel_rfl) (A.one_cells _) ?_))
 clear q0 q3 q4 q5 qb qc
 replace hX := hX.out.alloc (.cells (A.cells s) 48)
 replace hR := hR.out.alloc (.cells (A.cells s) 48)
 replace hI := hI.out.alloc (.cells (A.cells s) 48)
 replace hK := hK.out.alloc (A.cells s) 48
 have hT := Has.new (A.cells s) 48 w2
 generalize w2.heap.size = B9 at *
 generalize w2.alloc _ = w3 at *
 have q0 := hI.cell 0 _ rfl
 have q1 := hI.cell 1 _ rfl
 have q6 := hI.cell 6 _ rfl
 have qh := hR.cell 16 _ (A.cell_h s)
 have qq := hR.cell 19 _ (A.cell_c s)
 have t16 := hT.cell 16 _ (A.cell_h s)
 have t19 := hT.cell 19 _ (A.cell_c s)
 have t20 := hT.cell 20 _ (A.cell_v s)
 have f16 := hT.free 16
 have f19 := hT.free 19
 have f20 := hT.free 20
 replace hX := Lib.hid hX
 replace hR := Lib.hid hR
 replace hI := Lib.hid hI
 replace hK := Lib.hid hK
 replace hT := Lib.hid hT
 go_upto_region 38 with (go_at_call 57; refine (HC.out _).mono ?_; rintro e w4 ⟨rfl, rfl⟩)
 clear q0 q1 q6 qh qq t16 t19 t20 f16 f19 f20
 replace hT := Lib.hid (hT.out.set 19 (.bool C))
 rw [A.set_c] at hT
 replace hX := Lib.hid (hX.out.other (p := ⟨B9, 19, none⟩) (Nat.ne_of_lt hl) (.bool C))
 replace hI := Lib.hid (hI.out.other (p := ⟨B9, 19, none⟩) (Nat.ne_of_lt (by show w.heap.size + 1 < B9; omega)) (.bool C))
 replace hK := Lib.hid (hK.out.setCell (p := ⟨B9, 19, none⟩) (by show w.heap.size ≤ B9; omega) (.bool C))
 replace hT := Lib.hid (hT.out.set 20 (.bool V))
 rw [A.set_v] at hT
 replace hX := Lib.hid (hX.out.other (p := ⟨B9, 20, none⟩) (Nat.ne_of_lt hl) (.bool V))
 replace hI := Lib.hid (hI.out.other (p := ⟨B9, 20, none⟩) (Nat.ne_of_lt (by show w.heap.size + 1 < B9; omega)) (.bool V))
 replace hK := Lib.hid (hK.out.setCell (p := ⟨B9, 20, none⟩) (by show w.heap.size ≤ B9; omega) (.bool V))
 generalize World.setCell _ _ _ = w4 at *
 have q2 := hI.out.cell 2 _ rfl
 have ta := hT.out.cell a.toNat _ (A.cell_r (A.setV (A.setC s C) V) a.toNat (by omega))
 have fa := hT.out.free a.toNat
 go_upto_region 39 with (fail)
 clear q2 ta fa
 replace hT := Lib.hid (hT.out.set a.toNat (.int .u32 X))
 rw [A.set_r (A.setV (A.setC s C) V) a.toNat (by omega) X] at hT
 replace hX := Lib.hid (hX.out.other (p := ⟨B9, a.toNat, none⟩) (Nat.ne_of_lt hl) (.int .u32 X))
 replace hK := Lib.hid (hK.out.setCell (p := ⟨B9, a.toNat, none⟩) (by show w.heap.size ≤ B9; omega) (.int .u32 X))
 clear hI hR
 generalize World.setCell _ _ _ = w5 at *
 go_wp2_with (first
  | (with_reducible refine load_has (o := ⟨some 194, _, _, _, _, _⟩) rfl 48 _ rfl _ rfl hT.out Tryz.underlying48 rfl (A.info25 _) ?_)
  | (with_reducible refine store_has (o := ⟨none, Op.store 48 (.tmp 4) _, _, _, _, _⟩) rfl 48 _ _ rfl _ _ rfl rfl hX.out (A.info25 _) (by kernel_rfl) (A.one_cells _) ?_)
  | (go_at_call 50; (refine (rshow_any _ X hx0 hx1 _).mono ?_; rintro e w7 ⟨rfl, hK7⟩); (replace hX := Lib.hid (hX.out.kept hK7)); (replace hK := Lib.hid (hK.out.trans hK7)); clear hK7))
 exact bodyPost_ret (results_has2 rfl (w.heap.size + 2) rfl (hX.out.row _) Tryz.underlying48 rfl (A.info25 _)) rfl ⟨rfl, hK.out.row (by omega) _⟩
set_option maxRecDepth 100000 in
set_option maxHeartbeats 2000000 in
theorem rdo_2_8f (s : A.Regs) (a b c i bv cv X : Int) (C V : Bool) (ha0 : 0 ≤ a) (ha1 : a < 16) (hb0 : 0 ≤ b) (hb1 : b < 16) (hc0 : 0 ≤ c) (hc1 : c < 16) (b0 : 0 ≤ bv) (b1 : bv < 4294967296) (n0 : 0 ≤ i % 4294967296) (n1 : i % 4294967296 < 4294967296) (hbv : s.r b.toNat = bv) (hcv : s.r c.toNat = cv) (hx0 : 0 ≤ X) (hx1 : X < 4294967296) (w : World)
 (HM : Hid (∀ w, Calls Tryz.prog 54 #[.agg #[.int .i64 2, .int .i64 8, .int .i64 a, .int .i64 b, .int .i64 c, .int .i64 i, .bool false]] w fun e w' => e = .returned (.bool true) ∧ Kept w w'))
 (HC : Hid (∀ w, Calls Tryz.prog 57 #[.int .u32 bv, .int .u32 (i % 4294967296), .bool false] w fun e w' => e = .returned (.tuple #[.int .u32 X, .bool C, .bool V]) ∧ w = w')) :
 Calls Tryz.prog 33 #[.agg (A.cells s), .agg #[.int .i64 2, .int .i64 8, .int .i64 a, .int .i64 b, .int .i64 c, .int .i64 i, .bool false]] w fun e w' => e = .returned (.tuple #[.agg (A.cells (A.show' (A.set (A.setV (A.setC s C) V) a.toNat X) X)), .int .i64 0]) ∧ Kept w w' := by
 go_enter Tryz.func33, Tryz.ntmps33
 go_wp2_with fail
 refine (HM.out _).mono ?_; rintro e w2 ⟨rfl, hK2⟩
 have hX : Has (w.heap.size + 2) (A.cells A.none') 48 w2 := (Has.new2 _ _ _ _ _).kept hK2
 have hR : Has w.heap.size (A.cells s) 48 w2 := (((Has.new _ _ _).alloc _).alloc _).kept hK2
 have hI := ((Has.new1 _ _ _ _).alloc _).kept hK2
 have hK := ((((Kept.refl w).alloc _ _).alloc _ _).alloc _ _).trans hK2
 have hl := hX.lt
 clear hK2
 have q0 := hI.cell 0 _ rfl
 have q3 := hI.cell 3 _ rfl
 have q4 := hI.cell 4 _ rfl
 have q5 := hI.cell 5 _ rfl
 have qb := hR.cell b.toNat _ (A.cell_r s b.toNat (by omega))
 have qc := hR.cell c.toNat _ (A.cell_r s c.toNat (by omega))
 rw [hbv] at qb
 rw [hcv] at qc
 replace hX := Lib.hid hX
 replace hR := Lib.hid hR
 replace hI := Lib.hid hI
 replace hK := Lib.hid hK
 go_upto_region 14 with (first
  | (with_reducible refine load_has (o := ⟨some 48, _, _, _, _, _⟩) rfl 48 _ rfl _ rfl hR.out Tryz.underlying48 rfl (A.info25 _) ?_)
  | (with_reducible refine store_last (o := ⟨none, Op.store 48 (.tmp 9) _, _, _, _, _⟩) rfl 48 _ _ rfl _ _ rfl rfl rfl (A.info25 _) (by kernel_rfl) (A.one_cells _) ?_))
 clear q0 q3 q4 q5 qb qc
 replace hX := hX.out.alloc (.cells (A.cells s) 48)
 replace hR := hR.out.alloc (.cells (A.cells s) 48)
 replace hI := hI.out.alloc (.cells (A.cells s) 48)
 replace hK := hK.out.alloc (A.cells s) 48
 have hT := Has.new (A.cells s) 48 w2
 generalize w2.heap.size = B9 at *
 generalize w2.alloc _ = w3 at *
 have q0 := hI.cell 0 _ rfl
 have q1 := hI.cell 1 _ rfl
 have q6 := hI.cell 6 _ rfl
 have qh := hR.cell 16 _ (A.cell_h s)
 have qq := hR.cell 19 _ (A.cell_c s)
 have t16 := hT.cell 16 _ (A.cell_h s)
 have t19 := hT.cell 19 _ (A.cell_c s)
 have t20 := hT.cell 20 _ (A.cell_v s)
 have f16 := hT.free 16
 have f19 := hT.free 19
 have f20 := hT.free 20
 replace hX := Lib.hid hX
 replace hR := Lib.hid hR
 replace hI := Lib.hid hI
 replace hK := Lib.hid hK
 replace hT := Lib.hid hT
 go_upto_region 38 with (go_at_call 57; refine (HC.out _).mono ?_; rintro e w4 ⟨rfl, rfl⟩)
 clear q0 q1 q6 qh qq t16 t19 t20 f16 f19 f20
 replace hT := Lib.hid (hT.out.set 19 (.bool C))
 rw [A.set_c] at hT
 replace hX := Lib.hid (hX.out.other (p := ⟨B9, 19, none⟩) (Nat.ne_of_lt hl) (.bool C))
 replace hI := Lib.hid (hI.out.other (p := ⟨B9, 19, none⟩) (Nat.ne_of_lt (by show w.heap.size + 1 < B9; omega)) (.bool C))
 replace hK := Lib.hid (hK.out.setCell (p := ⟨B9, 19, none⟩) (by show w.heap.size ≤ B9; omega) (.bool C))
 replace hT := Lib.hid (hT.out.set 20 (.bool V))
 rw [A.set_v] at hT
 replace hX := Lib.hid (hX.out.other (p := ⟨B9, 20, none⟩) (Nat.ne_of_lt hl) (.bool V))
 replace hI := Lib.hid (hI.out.other (p := ⟨B9, 20, none⟩) (Nat.ne_of_lt (by show w.heap.size + 1 < B9; omega)) (.bool V))
 replace hK := Lib.hid (hK.out.setCell (p := ⟨B9, 20, none⟩) (by show w.heap.size ≤ B9; omega) (.bool V))
 generalize World.setCell _ _ _ = w4 at *
 have q2 := hI.out.cell 2 _ rfl
 have ta := hT.out.cell a.toNat _ (A.cell_r (A.setV (A.setC s C) V) a.toNat (by omega))
 have fa := hT.out.free a.toNat
 go_upto_region 39 with (fail)
 clear q2 ta fa
 replace hT := Lib.hid (hT.out.set a.toNat (.int .u32 X))
 rw [A.set_r (A.setV (A.setC s C) V) a.toNat (by omega) X] at hT
 replace hX := Lib.hid (hX.out.other (p := ⟨B9, a.toNat, none⟩) (Nat.ne_of_lt hl) (.int .u32 X))
 replace hK := Lib.hid (hK.out.setCell (p := ⟨B9, a.toNat, none⟩) (by show w.heap.size ≤ B9; omega) (.int .u32 X))
 clear hI hR
 generalize World.setCell _ _ _ = w5 at *
 go_wp2_with (first
  | (with_reducible refine load_has (o := ⟨some 194, _, _, _, _, _⟩) rfl 48 _ rfl _ rfl hT.out Tryz.underlying48 rfl (A.info25 _) ?_)
  | (with_reducible refine store_has (o := ⟨none, Op.store 48 (.tmp 4) _, _, _, _, _⟩) rfl 48 _ _ rfl _ _ rfl rfl hX.out (A.info25 _) (by kernel_rfl) (A.one_cells _) ?_)
  | (go_at_call 50; (refine (rshow_any _ X hx0 hx1 _).mono ?_; rintro e w7 ⟨rfl, hK7⟩); (replace hX := Lib.hid (hX.out.kept hK7)); (replace hK := Lib.hid (hK.out.trans hK7)); clear hK7))
 exact bodyPost_ret (results_has2 rfl (w.heap.size + 2) rfl (hX.out.row _) Tryz.underlying48 rfl (A.info25 _)) rfl ⟨rfl, hK.out.row (by omega) _⟩
set_option maxRecDepth 100000 in
set_option maxHeartbeats 2000000 in
theorem rdo_2_9t (s : A.Regs) (a b c i bv cv X : Int) (C V : Bool) (ha0 : 0 ≤ a) (ha1 : a < 16) (hb0 : 0 ≤ b) (hb1 : b < 16) (hc0 : 0 ≤ c) (hc1 : c < 16) (b0 : 0 ≤ bv) (b1 : bv < 4294967296) (n0 : 0 ≤ i % 4294967296) (n1 : i % 4294967296 < 4294967296) (hbv : s.r b.toNat = bv) (hcv : s.r c.toNat = cv) (hx0 : 0 ≤ X) (hx1 : X < 4294967296) (w : World)
 (HM : Hid (∀ w, Calls Tryz.prog 54 #[.agg #[.int .i64 2, .int .i64 9, .int .i64 a, .int .i64 b, .int .i64 c, .int .i64 i, .bool true]] w fun e w' => e = .returned (.bool true) ∧ Kept w w'))
 (HC : Hid (∀ w, Calls Tryz.prog 58 #[.int .u32 bv, .int .u32 (i % 4294967296), .bool s.c] w fun e w' => e = .returned (.tuple #[.int .u32 X, .bool C, .bool V]) ∧ w = w')) :
 Calls Tryz.prog 33 #[.agg (A.cells s), .agg #[.int .i64 2, .int .i64 9, .int .i64 a, .int .i64 b, .int .i64 c, .int .i64 i, .bool true]] w fun e w' => e = .returned (.tuple #[.agg (A.cells (A.show' (A.set (A.setV (A.setC s C) V) a.toNat X) X)), .int .i64 0]) ∧ Kept w w' := by
 go_enter Tryz.func33, Tryz.ntmps33
 go_wp2_with fail
 refine (HM.out _).mono ?_; rintro e w2 ⟨rfl, hK2⟩
 have hX : Has (w.heap.size + 2) (A.cells A.none') 48 w2 := (Has.new2 _ _ _ _ _).kept hK2
 have hR : Has w.heap.size (A.cells s) 48 w2 := (((Has.new _ _ _).alloc _).alloc _).kept hK2
 have hI := ((Has.new1 _ _ _ _).alloc _).kept hK2
 have hK := ((((Kept.refl w).alloc _ _).alloc _ _).alloc _ _).trans hK2
 have hl := hX.lt
 clear hK2
 have q0 := hI.cell 0 _ rfl
 have q3 := hI.cell 3 _ rfl
 have q4 := hI.cell 4 _ rfl
 have q5 := hI.cell 5 _ rfl
 have qb := hR.cell b.toNat _ (A.cell_r s b.toNat (by omega))
 have qc := hR.cell c.toNat _ (A.cell_r s c.toNat (by omega))
 rw [hbv] at qb
 rw [hcv] at qc
 replace hX := Lib.hid hX
 replace hR := Lib.hid hR
 replace hI := Lib.hid hI
 replace hK := Lib.hid hK
 go_upto_region 14 with (first
  | (with_reducible refine load_has (o := ⟨some 48, _, _, _, _, _⟩) rfl 48 _ rfl _ rfl hR.out Tryz.underlying48 rfl (A.info25 _) ?_)
  | (with_reducible refine store_last (o := ⟨none, Op.store 48 (.tmp 9) _, _, _, _, _⟩) rfl 48 _ _ rfl _ _ rfl rfl rfl (A.info25 _) (by kernel_rfl) (A.one_cells _) ?_))
 clear q0 q3 q4 q5 qb qc
 replace hX := hX.out.alloc (.cells (A.cells s) 48)
 replace hR := hR.out.alloc (.cells (A.cells s) 48)
 replace hI := hI.out.alloc (.cells (A.cells s) 48)
 replace hK := hK.out.alloc (A.cells s) 48
 have hT := Has.new (A.cells s) 48 w2
 generalize w2.heap.size = B9 at *
 generalize w2.alloc _ = w3 at *
 have q0 := hI.cell 0 _ rfl
 have q1 := hI.cell 1 _ rfl
 have q6 := hI.cell 6 _ rfl
 have qh := hR.cell 16 _ (A.cell_h s)
 have qq := hR.cell 19 _ (A.cell_c s)
 have t16 := hT.cell 16 _ (A.cell_h s)
 have t19 := hT.cell 19 _ (A.cell_c s)
 have t20 := hT.cell 20 _ (A.cell_v s)
 have f16 := hT.free 16
 have f19 := hT.free 19
 have f20 := hT.free 20
 replace hX := Lib.hid hX
 replace hR := Lib.hid hR
 replace hI := Lib.hid hI
 replace hK := Lib.hid hK
 replace hT := Lib.hid hT
 go_upto_region 38 with (go_at_call 58; refine (HC.out _).mono ?_; rintro e w4 ⟨rfl, rfl⟩)
 clear q0 q1 q6 qh qq t16 t19 t20 f16 f19 f20
 replace hT := Lib.hid (hT.out.set 19 (.bool C))
 rw [A.set_c] at hT
 replace hX := Lib.hid (hX.out.other (p := ⟨B9, 19, none⟩) (Nat.ne_of_lt hl) (.bool C))
 replace hI := Lib.hid (hI.out.other (p := ⟨B9, 19, none⟩) (Nat.ne_of_lt (by show w.heap.size + 1 < B9; omega)) (.bool C))
 replace hK := Lib.hid (hK.out.setCell (p := ⟨B9, 19, none⟩) (by show w.heap.size ≤ B9; omega) (.bool C))
 replace hT := Lib.hid (hT.out.set 20 (.bool V))
 rw [A.set_v] at hT
 replace hX := Lib.hid (hX.out.other (p := ⟨B9, 20, none⟩) (Nat.ne_of_lt hl) (.bool V))
 replace hI := Lib.hid (hI.out.other (p := ⟨B9, 20, none⟩) (Nat.ne_of_lt (by show w.heap.size + 1 < B9; omega)) (.bool V))
 replace hK := Lib.hid (hK.out.setCell (p := ⟨B9, 20, none⟩) (by show w.heap.size ≤ B9; omega) (.bool V))
 generalize World.setCell _ _ _ = w4 at *
 have q2 := hI.out.cell 2 _ rfl
 have ta := hT.out.cell a.toNat _ (A.cell_r (A.setV (A.setC s C) V) a.toNat (by omega))
 have fa := hT.out.free a.toNat
 go_upto_region 39 with (fail)
 clear q2 ta fa
 replace hT := Lib.hid (hT.out.set a.toNat (.int .u32 X))
 rw [A.set_r (A.setV (A.setC s C) V) a.toNat (by omega) X] at hT
 replace hX := Lib.hid (hX.out.other (p := ⟨B9, a.toNat, none⟩) (Nat.ne_of_lt hl) (.int .u32 X))
 replace hK := Lib.hid (hK.out.setCell (p := ⟨B9, a.toNat, none⟩) (by show w.heap.size ≤ B9; omega) (.int .u32 X))
 clear hI hR
 generalize World.setCell _ _ _ = w5 at *
 go_wp2_with (first
  | (with_reducible refine load_has (o := ⟨some 194, _, _, _, _, _⟩) rfl 48 _ rfl _ rfl hT.out Tryz.underlying48 rfl (A.info25 _) ?_)
  | (with_reducible refine store_has (o := ⟨none, Op.store 48 (.tmp 4) _, _, _, _, _⟩) rfl 48 _ _ rfl _ _ rfl rfl hX.out (A.info25 _) (by kernel_rfl) (A.one_cells _) ?_)
  | (go_at_call 50; (refine (rshow_any _ X hx0 hx1 _).mono ?_; rintro e w7 ⟨rfl, hK7⟩); (replace hX := Lib.hid (hX.out.kept hK7)); (replace hK := Lib.hid (hK.out.trans hK7)); clear hK7))
 exact bodyPost_ret (results_has2 rfl (w.heap.size + 2) rfl (hX.out.row _) Tryz.underlying48 rfl (A.info25 _)) rfl ⟨rfl, hK.out.row (by omega) _⟩
set_option maxRecDepth 100000 in
set_option maxHeartbeats 2000000 in
theorem rdo_2_9f (s : A.Regs) (a b c i bv cv X : Int) (C V : Bool) (ha0 : 0 ≤ a) (ha1 : a < 16) (hb0 : 0 ≤ b) (hb1 : b < 16) (hc0 : 0 ≤ c) (hc1 : c < 16) (b0 : 0 ≤ bv) (b1 : bv < 4294967296) (n0 : 0 ≤ i % 4294967296) (n1 : i % 4294967296 < 4294967296) (hbv : s.r b.toNat = bv) (hcv : s.r c.toNat = cv) (hx0 : 0 ≤ X) (hx1 : X < 4294967296) (w : World)
 (HM : Hid (∀ w, Calls Tryz.prog 54 #[.agg #[.int .i64 2, .int .i64 9, .int .i64 a, .int .i64 b, .int .i64 c, .int .i64 i, .bool false]] w fun e w' => e = .returned (.bool true) ∧ Kept w w'))
 (HC : Hid (∀ w, Calls Tryz.prog 58 #[.int .u32 bv, .int .u32 (i % 4294967296), .bool false] w fun e w' => e = .returned (.tuple #[.int .u32 X, .bool C, .bool V]) ∧ w = w')) :
 Calls Tryz.prog 33 #[.agg (A.cells s), .agg #[.int .i64 2, .int .i64 9, .int .i64 a, .int .i64 b, .int .i64 c, .int .i64 i, .bool false]] w fun e w' => e = .returned (.tuple #[.agg (A.cells (A.show' (A.set (A.setV (A.setC s C) V) a.toNat X) X)), .int .i64 0]) ∧ Kept w w' := by
 go_enter Tryz.func33, Tryz.ntmps33
 go_wp2_with fail
 refine (HM.out _).mono ?_; rintro e w2 ⟨rfl, hK2⟩
 have hX : Has (w.heap.size + 2) (A.cells A.none') 48 w2 := (Has.new2 _ _ _ _ _).kept hK2
 have hR : Has w.heap.size (A.cells s) 48 w2 := (((Has.new _ _ _).alloc _).alloc _).kept hK2
 have hI := ((Has.new1 _ _ _ _).alloc _).kept hK2
 have hK := ((((Kept.refl w).alloc _ _).alloc _ _).alloc _ _).trans hK2
 have hl := hX.lt
 clear hK2
 have q0 := hI.cell 0 _ rfl
 have q3 := hI.cell 3 _ rfl
 have q4 := hI.cell 4 _ rfl
 have q5 := hI.cell 5 _ rfl
 have qb := hR.cell b.toNat _ (A.cell_r s b.toNat (by omega))
 have qc := hR.cell c.toNat _ (A.cell_r s c.toNat (by omega))
 rw [hbv] at qb
 rw [hcv] at qc
 replace hX := Lib.hid hX
 replace hR := Lib.hid hR
 replace hI := Lib.hid hI
 replace hK := Lib.hid hK
 go_upto_region 14 with (first
  | (with_reducible refine load_has (o := ⟨some 48, _, _, _, _, _⟩) rfl 48 _ rfl _ rfl hR.out Tryz.underlying48 rfl (A.info25 _) ?_)
  | (with_reducible refine store_last (o := ⟨none, Op.store 48 (.tmp 9) _, _, _, _, _⟩) rfl 48 _ _ rfl _ _ rfl rfl rfl (A.info25 _) (by kernel_rfl) (A.one_cells _) ?_))
 clear q0 q3 q4 q5 qb qc
 replace hX := hX.out.alloc (.cells (A.cells s) 48)
 replace hR := hR.out.alloc (.cells (A.cells s) 48)
 replace hI := hI.out.alloc (.cells (A.cells s) 48)
 replace hK := hK.out.alloc (A.cells s) 48
 have hT := Has.new (A.cells s) 48 w2
 generalize w2.heap.size = B9 at *
 generalize w2.alloc _ = w3 at *
 have q0 := hI.cell 0 _ rfl
 have q1 := hI.cell 1 _ rfl
 have q6 := hI.cell 6 _ rfl
 have qh := hR.cell 16 _ (A.cell_h s)
 have qq := hR.cell 19 _ (A.cell_c s)
 have t16 := hT.cell 16 _ (A.cell_h s)
 have t19 := hT.cell 19 _ (A.cell_c s)
 have t20 := hT.cell 20 _ (A.cell_v s)
 have f16 := hT.free 16
 have f19 := hT.free 19
 have f20 := hT.free 20
 replace hX := Lib.hid hX
 replace hR := Lib.hid hR
 replace hI := Lib.hid hI
 replace hK := Lib.hid hK
 replace hT := Lib.hid hT
 go_upto_region 38 with (go_at_call 58; refine (HC.out _).mono ?_; rintro e w4 ⟨rfl, rfl⟩)
 clear q0 q1 q6 qh qq t16 t19 t20 f16 f19 f20
 replace hT := Lib.hid (hT.out.set 19 (.bool C))
 rw [A.set_c] at hT
 replace hX := Lib.hid (hX.out.other (p := ⟨B9, 19, none⟩) (Nat.ne_of_lt hl) (.bool C))
 replace hI := Lib.hid (hI.out.other (p := ⟨B9, 19, none⟩) (Nat.ne_of_lt (by show w.heap.size + 1 < B9; omega)) (.bool C))
 replace hK := Lib.hid (hK.out.setCell (p := ⟨B9, 19, none⟩) (by show w.heap.size ≤ B9; omega) (.bool C))
 replace hT := Lib.hid (hT.out.set 20 (.bool V))
 rw [A.set_v] at hT
 replace hX := Lib.hid (hX.out.other (p := ⟨B9, 20, none⟩) (Nat.ne_of_lt hl) (.bool V))
 replace hI := Lib.hid (hI.out.other (p := ⟨B9, 20, none⟩) (Nat.ne_of_lt (by show w.heap.size + 1 < B9; omega)) (.bool V))
 replace hK := Lib.hid (hK.out.setCell (p := ⟨B9, 20, none⟩) (by show w.heap.size ≤ B9; omega) (.bool V))
 generalize World.setCell _ _ _ = w4 at *
 have q2 := hI.out.cell 2 _ rfl
 have ta := hT.out.cell a.toNat _ (A.cell_r (A.setV (A.setC s C) V) a.toNat (by omega))
 have fa := hT.out.free a.toNat
 go_upto_region 39 with (fail)
 clear q2 ta fa
 replace hT := Lib.hid (hT.out.set a.toNat (.int .u32 X))
 rw [A.set_r (A.setV (A.setC s C) V) a.toNat (by omega) X] at hT
 replace hX := Lib.hid (hX.out.other (p := ⟨B9, a.toNat, none⟩) (Nat.ne_of_lt hl) (.int .u32 X))
 replace hK := Lib.hid (hK.out.setCell (p := ⟨B9, a.toNat, none⟩) (by show w.heap.size ≤ B9; omega) (.int .u32 X))
 clear hI hR
 generalize World.setCell _ _ _ = w5 at *
 go_wp2_with (first
  | (with_reducible refine load_has (o := ⟨some 194, _, _, _, _, _⟩) rfl 48 _ rfl _ rfl hT.out Tryz.underlying48 rfl (A.info25 _) ?_)
  | (with_reducible refine store_has (o := ⟨none, Op.store 48 (.tmp 4) _, _, _, _, _⟩) rfl 48 _ _ rfl _ _ rfl rfl hX.out (A.info25 _) (by kernel_rfl) (A.one_cells _) ?_)
  | (go_at_call 50; (refine (rshow_any _ X hx0 hx1 _).mono ?_; rintro e w7 ⟨rfl, hK7⟩); (replace hX := Lib.hid (hX.out.kept hK7)); (replace hK := Lib.hid (hK.out.trans hK7)); clear hK7))
 exact bodyPost_ret (results_has2 rfl (w.heap.size + 2) rfl (hX.out.row _) Tryz.underlying48 rfl (A.info25 _)) rfl ⟨rfl, hK.out.row (by omega) _⟩
set_option maxRecDepth 100000 in
set_option maxHeartbeats 2000000 in
theorem rdo_2_10 (s : A.Regs) (a b c i bv cv X : Int) (u : Bool) (H : Int) (ha0 : 0 ≤ a) (ha1 : a < 16) (hb0 : 0 ≤ b) (hb1 : b < 16) (hc0 : 0 ≤ c) (hc1 : c < 16) (b0 : 0 ≤ bv) (b1 : bv < 4294967296) (n0 : 0 ≤ i % 4294967296) (n1 : i % 4294967296 < 4294967296) (hbv : s.r b.toNat = bv) (hcv : s.r c.toNat = cv) (hx0 : 0 ≤ X) (hx1 : X < 4294967296) (w : World)
 (HM : Hid (∀ w, Calls Tryz.prog 54 #[.agg #[.int .i64 2, .int .i64 10, .int .i64 a, .int .i64 b, .int .i64 c, .int .i64 i, .bool u]] w fun e w' => e = .returned (.bool true) ∧ Kept w w'))
 (HC : Hid (∀ w, Calls Tryz.prog 59 #[.int .u32 bv, .int .u32 (i % 4294967296), .bool u] w fun e w' => e = .returned (.tuple #[.int .u32 X, .int .u32 H]) ∧ w = w')) :
 Calls Tryz.prog 33 #[.agg (A.cells s), .agg #[.int .i64 2, .int .i64 10, .int .i64 a, .int .i64 b, .int .i64 c, .int .i64 i, .bool u]] w fun e w' => e = .returned (.tuple #[.agg (A.cells (A.show' (A.set (A.setH s H) a.toNat X) X)), .int .i64 0]) ∧ Kept w w' := by
 go_enter Tryz.func33, Tryz.ntmps33
 go_wp2_with fail
 refine (HM.out _).mono ?_; rintro e w2 ⟨rfl, hK2⟩
 have hX : Has (w.heap.size + 2) (A.cells A.none') 48 w2 := (Has.new2 _ _ _ _ _).kept hK2
 have hR : Has w.heap.size (A.cells s) 48 w2 := (((Has.new _ _ _).alloc _).alloc _).kept hK2
 have hI := ((Has.new1 _ _ _ _).alloc _).kept hK2
 have hK := ((((Kept.refl w).alloc _ _).alloc _ _).alloc _ _).trans hK2
 have hl := hX.lt
 clear hK2
 have q0 := hI.cell 0 _ rfl
 have q3 := hI.cell 3 _ rfl
 have q4 := hI.cell 4 _ rfl
 have q5 := hI.cell 5 _ rfl
 have qb := hR.cell b.toNat _ (A.cell_r s b.toNat (by omega))
 have qc := hR.cell c.toNat _ (A.cell_r s c.toNat (by omega))
 rw [hbv] at qb
 rw [hcv] at qc
 replace hX := Lib.hid hX
 replace hR := Lib.hid hR
 replace hI := Lib.hid hI
 replace hK := Lib.hid hK
 go_upto_region 14 with (first
  | (with_reducible refine load_has (o := ⟨some 48, _, _, _, _, _⟩) rfl 48 _ rfl _ rfl hR.out Tryz.underlying48 rfl (A.info25 _) ?_)
  | (with_reducible refine store_last (o := ⟨none, Op.store 48 (.tmp 9) _, _, _, _, _⟩) rfl 48 _ _ rfl _ _ rfl rfl rfl (A.info25 _) (by kernel_rfl) (A.one_cells _) ?_))
 clear q0 q3 q4 q5 qb qc
 replace hX := hX.out.alloc (.cells (A.cells s) 48)
 replace hR := hR.out.alloc (.cells (A.cells s) 48)
 replace hI := hI.out.alloc (.cells (A.cells s) 48)
 replace hK := hK.out.alloc (A.cells s) 48
 have hT := Has.new (A.cells s) 48 w2
 generalize w2.heap.size = B9 at *
 generalize w2.alloc _ = w3 at *
 have q0 := hI.cell 0 _ rfl
 have q1 := hI.cell 1 _ rfl
 have q6 := hI.cell 6 _ rfl
 have qh := hR.cell 16 _ (A.cell_h s)
 have qq := hR.cell 19 _ (A.cell_c s)
 have t16 := hT.cell 16 _ (A.cell_h s)
 have t19 := hT.cell 19 _ (A.cell_c s)
 have t20 := hT.cell 20 _ (A.cell_v s)
 have f16 := hT.free 16
 have f19 := hT.free 19
 have f20 := hT.free 20
 replace hX := Lib.hid hX
 replace hR := Lib.hid hR
 replace hI := Lib.hid hI
 replace hK := Lib.hid hK
 replace hT := Lib.hid hT
 go_upto_region 38 with (go_at_call 59; refine (HC.out _).mono ?_; rintro e w4 ⟨rfl, rfl⟩)
 clear q0 q1 q6 qh qq t16 t19 t20 f16 f19 f20
 replace hT := Lib.hid (hT.out.set 16 (.int .u32 H))
 rw [A.set_h] at hT
 replace hX := Lib.hid (hX.out.other (p := ⟨B9, 16, none⟩) (Nat.ne_of_lt hl) (.int .u32 H))
 replace hI := Lib.hid (hI.out.other (p := ⟨B9, 16, none⟩) (Nat.ne_of_lt (by show w.heap.size + 1 < B9; omega)) (.int .u32 H))
 replace hK := Lib.hid (hK.out.setCell (p := ⟨B9, 16, none⟩) (by show w.heap.size ≤ B9; omega) (.int .u32 H))
 generalize World.setCell _ _ _ = w4 at *
 have q2 := hI.out.cell 2 _ rfl
 have ta := hT.out.cell a.toNat _ (A.cell_r (A.setH s H) a.toNat (by omega))
 have fa := hT.out.free a.toNat
 go_upto_region 39 with (fail)
 clear q2 ta fa
 replace hT := Lib.hid (hT.out.set a.toNat (.int .u32 X))
 rw [A.set_r (A.setH s H) a.toNat (by omega) X] at hT
 replace hX := Lib.hid (hX.out.other (p := ⟨B9, a.toNat, none⟩) (Nat.ne_of_lt hl) (.int .u32 X))
 replace hK := Lib.hid (hK.out.setCell (p := ⟨B9, a.toNat, none⟩) (by show w.heap.size ≤ B9; omega) (.int .u32 X))
 clear hI hR
 generalize World.setCell _ _ _ = w5 at *
 go_wp2_with (first
  | (with_reducible refine load_has (o := ⟨some 194, _, _, _, _, _⟩) rfl 48 _ rfl _ rfl hT.out Tryz.underlying48 rfl (A.info25 _) ?_)
  | (with_reducible refine store_has (o := ⟨none, Op.store 48 (.tmp 4) _, _, _, _, _⟩) rfl 48 _ _ rfl _ _ rfl rfl hX.out (A.info25 _) (by kernel_rfl) (A.one_cells _) ?_)
  | (go_at_call 50; (refine (rshow_any _ X hx0 hx1 _).mono ?_; rintro e w7 ⟨rfl, hK7⟩); (replace hX := Lib.hid (hX.out.kept hK7)); (replace hK := Lib.hid (hK.out.trans hK7)); clear hK7))
 exact bodyPost_ret (results_has2 rfl (w.heap.size + 2) rfl (hX.out.row _) Tryz.underlying48 rfl (A.info25 _)) rfl ⟨rfl, hK.out.row (by omega) _⟩
set_option maxRecDepth 100000 in
set_option maxHeartbeats 2000000 in
theorem rdo_2_11 (s : A.Regs) (a b c i bv cv X : Int) (u : Bool) (H : Int) (ha0 : 0 ≤ a) (ha1 : a < 16) (hb0 : 0 ≤ b) (hb1 : b < 16) (hc0 : 0 ≤ c) (hc1 : c < 16) (b0 : 0 ≤ bv) (b1 : bv < 4294967296) (n0 : 0 ≤ i % 4294967296) (n1 : i % 4294967296 < 4294967296) (hbv : s.r b.toNat = bv) (hcv : s.r c.toNat = cv) (hx0 : 0 ≤ X) (hx1 : X < 4294967296) (w : World)
 (HM : Hid (∀ w, Calls Tryz.prog 54 #[.agg #[.int .i64 2, .int .i64 11, .int .i64 a, .int .i64 b, .int .i64 c, .int .i64 i, .bool u]] w fun e w' => e = .returned (.bool true) ∧ Kept w w'))
 (HC : Hid (∀ w, Calls Tryz.prog 60 #[.int .u32 bv, .int .u32 (i % 4294967296)] w fun e w' => e = .returned (.tuple #[.int .u32 X, .int .u32 H, .bool true]) ∧ w = w')) :
 Calls Tryz.prog 33 #[.agg (A.cells s), .agg #[.int .i64 2, .int .i64 11, .int .i64 a, .int .i64 b, .int .i64 c, .int .i64 i, .bool u]] w fun e w' => e = .returned (.tuple #[.agg (A.cells (A.show' (A.set (A.setH s H) a.toNat X) X)), .int .i64 0]) ∧ Kept w w' := by
 go_enter Tryz.func33, Tryz.ntmps33
 go_wp2_with fail
 refine (HM.out _).mono ?_; rintro e w2 ⟨rfl, hK2⟩
 have hX : Has (w.heap.size + 2) (A.cells A.none') 48 w2 := (Has.new2 _ _ _ _ _).kept hK2
 have hR : Has w.heap.size (A.cells s) 48 w2 := (((Has.new _ _ _).alloc _).alloc _).kept hK2
 have hI := ((Has.new1 _ _ _ _).alloc _).kept hK2
 have hK := ((((Kept.refl w).alloc _ _).alloc _ _).alloc _ _).trans hK2
 have hl := hX.lt
 clear hK2
 have q0 := hI.cell 0 _ rfl
 have q3 := hI.cell 3 _ rfl
 have q4 := hI.cell 4 _ rfl
 have q5 := hI.cell 5 _ rfl
 have qb := hR.cell b.toNat _ (A.cell_r s b.toNat (by omega))
 have qc := hR.cell c.toNat _ (A.cell_r s c.toNat (by omega))
 rw [hbv] at qb
 rw [hcv] at qc
 replace hX := Lib.hid hX
 replace hR := Lib.hid hR
 replace hI := Lib.hid hI
 replace hK := Lib.hid hK
 go_upto_region 14 with (first
  | (with_reducible refine load_has (o := ⟨some 48, _, _, _, _, _⟩) rfl 48 _ rfl _ rfl hR.out Tryz.underlying48 rfl (A.info25 _) ?_)
  | (with_reducible refine store_last (o := ⟨none, Op.store 48 (.tmp 9) _, _, _, _, _⟩) rfl 48 _ _ rfl _ _ rfl rfl rfl (A.info25 _) (by kernel_rfl) (A.one_cells _) ?_))
 clear q0 q3 q4 q5 qb qc
 replace hX := hX.out.alloc (.cells (A.cells s) 48)
 replace hR := hR.out.alloc (.cells (A.cells s) 48)
 replace hI := hI.out.alloc (.cells (A.cells s) 48)
 replace hK := hK.out.alloc (A.cells s) 48
 have hT := Has.new (A.cells s) 48 w2
 generalize w2.heap.size = B9 at *
 generalize w2.alloc _ = w3 at *
 have q0 := hI.cell 0 _ rfl
 have q1 := hI.cell 1 _ rfl
 have q6 := hI.cell 6 _ rfl
 have qh := hR.cell 16 _ (A.cell_h s)
 have qq := hR.cell 19 _ (A.cell_c s)
 have t16 := hT.cell 16 _ (A.cell_h s)
 have t19 := hT.cell 19 _ (A.cell_c s)
 have t20 := hT.cell 20 _ (A.cell_v s)
 have f16 := hT.free 16
 have f19 := hT.free 19
 have f20 := hT.free 20
 replace hX := Lib.hid hX
 replace hR := Lib.hid hR
 replace hI := Lib.hid hI
 replace hK := Lib.hid hK
 replace hT := Lib.hid hT
 go_upto_region 38 with (go_at_call 60; refine (HC.out _).mono ?_; rintro e w4 ⟨rfl, rfl⟩)
 clear q0 q1 q6 qh qq t16 t19 t20 f16 f19 f20
 replace hT := Lib.hid (hT.out.set 16 (.int .u32 H))
 rw [A.set_h] at hT
 replace hX := Lib.hid (hX.out.other (p := ⟨B9, 16, none⟩) (Nat.ne_of_lt hl) (.int .u32 H))
 replace hI := Lib.hid (hI.out.other (p := ⟨B9, 16, none⟩) (Nat.ne_of_lt (by show w.heap.size + 1 < B9; omega)) (.int .u32 H))
 replace hK := Lib.hid (hK.out.setCell (p := ⟨B9, 16, none⟩) (by show w.heap.size ≤ B9; omega) (.int .u32 H))
 generalize World.setCell _ _ _ = w4 at *
 have q2 := hI.out.cell 2 _ rfl
 have ta := hT.out.cell a.toNat _ (A.cell_r (A.setH s H) a.toNat (by omega))
 have fa := hT.out.free a.toNat
 go_upto_region 39 with (fail)
 clear q2 ta fa
 replace hT := Lib.hid (hT.out.set a.toNat (.int .u32 X))
 rw [A.set_r (A.setH s H) a.toNat (by omega) X] at hT
 replace hX := Lib.hid (hX.out.other (p := ⟨B9, a.toNat, none⟩) (Nat.ne_of_lt hl) (.int .u32 X))
 replace hK := Lib.hid (hK.out.setCell (p := ⟨B9, a.toNat, none⟩) (by show w.heap.size ≤ B9; omega) (.int .u32 X))
 clear hI hR
 generalize World.setCell _ _ _ = w5 at *
 go_wp2_with (first
  | (with_reducible refine load_has (o := ⟨some 194, _, _, _, _, _⟩) rfl 48 _ rfl _ rfl hT.out Tryz.underlying48 rfl (A.info25 _) ?_)
  | (with_reducible refine store_has (o := ⟨none, Op.store 48 (.tmp 4) _, _, _, _, _⟩) rfl 48 _ _ rfl _ _ rfl rfl hX.out (A.info25 _) (by kernel_rfl) (A.one_cells _) ?_)
  | (go_at_call 50; (refine (rshow_any _ X hx0 hx1 _).mono ?_; rintro e w7 ⟨rfl, hK7⟩); (replace hX := Lib.hid (hX.out.kept hK7)); (replace hK := Lib.hid (hK.out.trans hK7)); clear hK7))
 exact bodyPost_ret (results_has2 rfl (w.heap.size + 2) rfl (hX.out.row _) Tryz.underlying48 rfl (A.info25 _)) rfl ⟨rfl, hK.out.row (by omega) _⟩
set_option maxRecDepth 100000 in
set_option maxHeartbeats 2000000 in
theorem rdo_2_11n (s : A.Regs) (a b c i bv cv X : Int) (u : Bool) (ha0 : 0 ≤ a) (ha1 : a < 16) (hb0 : 0 ≤ b) (hb1 : b < 16) (hc0 : 0 ≤ c) (hc1 : c < 16) (b0 : 0 ≤ bv) (b1 : bv < 4294967296) (n0 : 0 ≤ i % 4294967296) (n1 : i % 4294967296 < 4294967296) (hbv : s.r b.toNat = bv) (hcv : s.r c.toNat = cv) (hx0 : 0 ≤ X) (hx1 : X < 4294967296) (w : World)
 (HM : Hid (∀ w, Calls Tryz.prog 54 #[.agg #[.int .i64 2, .int .i64 11, .int .i64 a, .int .i64 b, .int .i64 c, .int .i64 i, .bool u]] w fun e w' => e = .returned (.bool true) ∧ Kept w w'))
 (HC : Hid (∀ w, Calls Tryz.prog 60 #[.int .u32 bv, .int .u32 (i % 4294967296)] w fun e w' => e = .returned (.tuple #[.int .u32 0, .int .u32 0, .bool false]) ∧ w = w')) :
 Calls Tryz.prog 33 #[.agg (A.cells s), .agg #[.int .i64 2, .int .i64 11, .int .i64 a, .int .i64 b, .int .i64 c, .int .i64 i, .bool u]] w fun e w' => e = .returned (.tuple #[.agg (A.cells s), .int .i64 5]) ∧ Kept w w' := by
 go_enter Tryz.func33, Tryz.ntmps33
 go_wp2_with fail
 refine (HM.out _).mono ?_; rintro e w2 ⟨rfl, hK2⟩
 have hX : Has (w.heap.size + 2) (A.cells A.none') 48 w2 := (Has.new2 _ _ _ _ _).kept hK2
 have hR : Has w.heap.size (A.cells s) 48 w2 := (((Has.new _ _ _).alloc _).alloc _).kept hK2
 have hI := ((Has.new1 _ _ _ _).alloc _).kept hK2
 have hK := ((((Kept.refl w).alloc _ _).alloc _ _).alloc _ _).trans hK2
 have hl := hX.lt
 clear hK2
 have q0 := hI.cell 0 _ rfl
 have q3 := hI.cell 3 _ rfl
 have q4 := hI.cell 4 _ rfl
 have q5 := hI.cell 5 _ rfl
 have qb := hR.cell b.toNat _ (A.cell_r s b.toNat (by omega))
 have qc := hR.cell c.toNat _ (A.cell_r s c.toNat (by omega))
 rw [hbv] at qb
 rw [hcv] at qc
 replace hX := Lib.hid hX
 replace hR := Lib.hid hR
 replace hI := Lib.hid hI
 replace hK := Lib.hid hK
 go_upto_region 14 with (first
  | (with_reducible refine load_has (o := ⟨some 48, _, _, _, _, _⟩) rfl 48 _ rfl _ rfl hR.out Tryz.underlying48 rfl (A.info25 _) ?_)
  | (with_reducible refine store_last (o := ⟨none, Op.store 48 (.tmp 9) _, _, _, _, _⟩) rfl 48 _ _ rfl _ _ rfl rfl rfl (A.info25 _) (by kernel_rfl) (A.one_cells _) ?_))
 clear q0 q3 q4 q5 qb qc
 replace hX := hX.out.alloc (.cells (A.cells s) 48)
 replace hR := hR.out.alloc (.cells (A.cells s) 48)
 replace hI := hI.out.alloc (.cells (A.cells s) 48)
 replace hK := hK.out.alloc (A.cells s) 48
 have hT := Has.new (A.cells s) 48 w2
 generalize w2.heap.size = B9 at *
 generalize w2.alloc _ = w3 at *
 have q0 := hI.cell 0 _ rfl
 have q1 := hI.cell 1 _ rfl
 have q6 := hI.cell 6 _ rfl
 have qh := hR.cell 16 _ (A.cell_h s)
 have qq := hR.cell 19 _ (A.cell_c s)
 have t16 := hT.cell 16 _ (A.cell_h s)
 have t19 := hT.cell 19 _ (A.cell_c s)
 have t20 := hT.cell 20 _ (A.cell_v s)
 have f16 := hT.free 16
 have f19 := hT.free 19
 have f20 := hT.free 20
 replace hX := Lib.hid hX
 replace hR := Lib.hid hR
 replace hI := Lib.hid hI
 replace hK := Lib.hid hK
 replace hT := Lib.hid hT
 go_wp2_with (first
  | (go_at_call 60; refine (HC.out _).mono ?_; rintro e w4 ⟨rfl, rfl⟩)
  | (with_reducible refine load_has (o := ⟨some 58, _, _, _, _, _⟩) rfl 48 _ rfl _ rfl hR.out Tryz.underlying48 rfl (A.info25 _) ?_)
  | (with_reducible refine store_has (o := ⟨none, Op.store 48 (.tmp 4) _, _, _, _, _⟩) rfl 48 _ _ rfl _ _ rfl rfl hX.out (A.info25 _) (by kernel_rfl) (A.one_cells _) ?_))
 exact bodyPost_ret (results_has2 rfl (w.heap.size + 2) rfl (hX.out.row _) Tryz.underlying48 rfl (A.info25 _)) rfl ⟨rfl, hK.out.row (by omega) _⟩
set_option maxRecDepth 100000 in
set_option maxHeartbeats 2000000 in
theorem rdo_3 (s : A.Regs) (op a b c i bv cv X : Int) (u : Bool) (ha0 : 0 ≤ a) (ha1 : a < 16) (hb0 : 0 ≤ b) (hb1 : b < 16) (hc0 : 0 ≤ c) (hc1 : c < 16) (b0 : 0 ≤ bv) (b1 : bv < 4294967296) (n0 : 0 ≤ cv) (n1 : cv < 4294967296) (hbv : s.r b.toNat = bv) (hcv : s.r c.toNat = cv) (hx0 : 0 ≤ X) (hx1 : X < 4294967296) (w : World)
 (HM : Hid (∀ w, Calls Tryz.prog 54 #[.agg #[.int .i64 3, .int .i64 op, .int .i64 a, .int .i64 b, .int .i64 c, .int .i64 i, .bool u]] w fun e w' => e = .returned (.bool true) ∧ Kept w w'))
 (HE : Hid (s.h = X)) :
 Calls Tryz.prog 33 #[.agg (A.cells s), .agg #[.int .i64 3, .int .i64 op, .int .i64 a, .int .i64 b, .int .i64 c, .int .i64 i, .bool u]] w fun e w' => e = .returned (.tuple #[.agg (A.cells (A.show' (A.set (s) a.toNat X) X)), .int .i64 0]) ∧ Kept w w' := by
 go_enter Tryz.func33, Tryz.ntmps33
 go_wp2_with fail
 refine (HM.out _).mono ?_; rintro e w2 ⟨rfl, hK2⟩
 have hX : Has (w.heap.size + 2) (A.cells A.none') 48 w2 := (Has.new2 _ _ _ _ _).kept hK2
 have hR : Has w.heap.size (A.cells s) 48 w2 := (((Has.new _ _ _).alloc _).alloc _).kept hK2
 have hI := ((Has.new1 _ _ _ _).alloc _).kept hK2
 have hK := ((((Kept.refl w).alloc _ _).alloc _ _).alloc _ _).trans hK2
 have hl := hX.lt
 clear hK2
 have q0 := hI.cell 0 _ rfl
 have q3 := hI.cell 3 _ rfl
 have q4 := hI.cell 4 _ rfl
 have q5 := hI.cell 5 _ rfl
 have qb := hR.cell b.toNat _ (A.cell_r s b.toNat (by omega))
 have qc := hR.cell c.toNat _ (A.cell_r s c.toNat (by omega))
 rw [hbv] at qb
 rw [hcv] at qc
 replace hX := Lib.hid hX
 replace hR := Lib.hid hR
 replace hI := Lib.hid hI
 replace hK := Lib.hid hK
 go_upto_region 14 with (first
  | (with_reducible refine load_has (o := ⟨some 48, _, _, _, _, _⟩) rfl 48 _ rfl _ rfl hR.out Tryz.underlying48 rfl (A.info25 _) ?_)
  | (with_reducible refine store_last (o := ⟨none, Op.store 48 (.tmp 9) _, _, _, _, _⟩) rfl 48 _ _ rfl _ _ rfl rfl rfl (A.info25 _) (by kernel_rfl) (A.one_cells _) ?_))
 clear q0 q3 q4 q5 qb qc
 replace hX := hX.out.alloc (.cells (A.cells s) 48)
 replace hR := hR.out.alloc (.cells (A.cells s) 48)
 replace hI := hI.out.alloc (.cells (A.cells s) 48)
 replace hK := hK.out.alloc (A.cells s) 48
 have hT := Has.new (A.cells s) 48 w2
 generalize w2.heap.size = B9 at *
 generalize w2.alloc _ = w3 at *
 have q0 := hI.cell 0 _ rfl
 have q1 := hI.cell 1 _ rfl
 have q6 := hI.cell 6 _ rfl
 have qh := hR.cell 16 _ (A.cell_h s)
 have qq := hR.cell 19 _ (A.cell_c s)
 have t16 := hT.cell 16 _ (A.cell_h s)
 have t19 := hT.cell 19 _ (A.cell_c s)
 have t20 := hT.cell 20 _ (A.cell_v s)
 have f16 := hT.free 16
 have f19 := hT.free 19
 have f20 := hT.free 20
 replace hX := Lib.hid hX
 replace hR := Lib.hid hR
 replace hI := Lib.hid hI
 replace hK := Lib.hid hK
 replace hT := Lib.hid hT
 rw [HE.out] at qh
 go_upto_region 38 with (fail)
 clear q0 q1 q6 qh qq t16 t19 t20 f16 f19 f20
 have q2 := hI.out.cell 2 _ rfl
 have ta := hT.out.cell a.toNat _ (A.cell_r (s) a.toNat (by omega))
 have fa := hT.out.free a.toNat
 go_upto_region 39 with (fail)
 clear q2 ta fa
 replace hT := Lib.hid (hT.out.set a.toNat (.int .u32 X))
 rw [A.set_r (s) a.toNat (by omega) X] at hT
 replace hX := Lib.hid (hX.out.other (p := ⟨B9, a.toNat, none⟩) (Nat.ne_of_lt hl) (.int .u32 X))
 replace hK := Lib.hid (hK.out.setCell (p := ⟨B9, a.toNat, none⟩) (by show w.heap.size ≤ B9; omega) (.int .u32 X))
 clear hI hR
 generalize World.setCell _ _ _ = w5 at *
 go_wp2_with (first
  | (with_reducible refine load_has (o := ⟨some 194, _, _, _, _, _⟩) rfl 48 _ rfl _ rfl hT.out Tryz.underlying48 rfl (A.info25 _) ?_)
  | (with_reducible refine store_has (o := ⟨none, Op.store 48 (.tmp 4) _, _, _, _, _⟩) rfl 48 _ _ rfl _ _ rfl rfl hX.out (A.info25 _) (by kernel_rfl) (A.one_cells _) ?_)
  | (go_at_call 50; (refine (rshow_any _ X hx0 hx1 _).mono ?_; rintro e w7 ⟨rfl, hK7⟩); (replace hX := Lib.hid (hX.out.kept hK7)); (replace hK := Lib.hid (hK.out.trans hK7)); clear hK7))
 exact bodyPost_ret (results_has2 rfl (w.heap.size + 2) rfl (hX.out.row _) Tryz.underlying48 rfl (A.info25 _)) rfl ⟨rfl, hK.out.row (by omega) _⟩
set_option maxRecDepth 100000 in
set_option maxHeartbeats 2000000 in
theorem rdo_not (s : A.Regs) (k op a b c i : Int) (u : Bool) (w : World)
 (HM : Hid (∀ w, Calls Tryz.prog 54 #[.agg #[.int .i64 k, .int .i64 op, .int .i64 a, .int .i64 b, .int .i64 c, .int .i64 i, .bool u]] w fun e w' => e = .returned (.bool false) ∧ Kept w w')) :
 Calls Tryz.prog 33 #[.agg (A.cells s), .agg #[.int .i64 k, .int .i64 op, .int .i64 a, .int .i64 b, .int .i64 c, .int .i64 i, .bool u]] w fun e w' => e = .returned (.tuple #[.agg (A.cells s), .int .i64 0]) ∧ Kept w w' := by
 go_enter Tryz.func33, Tryz.ntmps33
 go_wp2_with fail
 refine (HM.out _).mono ?_; rintro e w2 ⟨rfl, hK2⟩
 have hX : Has (w.heap.size + 2) (A.cells A.none') 48 w2 := (Has.new2 _ _ _ _ _).kept hK2
 have hR : Has w.heap.size (A.cells s) 48 w2 := (((Has.new _ _ _).alloc _).alloc _).kept hK2
 have hI := ((Has.new1 _ _ _ _).alloc _).kept hK2
 have hK := ((((Kept.refl w).alloc _ _).alloc _ _).alloc _ _).trans hK2
 clear hK2
 have q0 := hI.cell 0 _ rfl
 replace hX := Lib.hid hX
 replace hR := Lib.hid hR
 replace hK := Lib.hid hK
 clear hI
 go_wp2_with (first
  | (with_reducible refine load_has (o := ⟨some 31, _, _, _, _, _⟩) rfl 48 _ rfl _ rfl hR.out Tryz.underlying48 rfl (A.info25 _) ?_)
  | (with_reducible refine store_has (o := ⟨none, Op.store 48 (.tmp 4) _, _, _, _, _⟩) rfl 48 _ _ rfl _ _ rfl rfl hX.out (A.info25 _) (by kernel_rfl) (A.one_cells _) ?_))
 exact bodyPost_ret (results_has2 rfl (w.heap.size + 2) rfl (hX.out.row _) Tryz.underlying48 rfl (A.info25 _)) rfl ⟨rfl, hK.out.row (by omega) _⟩
set_option maxRecDepth 100000 in
set_option maxHeartbeats 2000000 in
theorem rdo_5 (s : A.Regs) (op a b c i : Int) (u : Bool) (w : World)
 (HM : Hid (∀ w, Calls Tryz.prog 54 #[.agg #[.int .i64 5, .int .i64 op, .int .i64 a, .int .i64 b, .int .i64 c, .int .i64 i, .bool u]] w fun e w' => e = .returned (.bool true) ∧ Kept w w')) :
 Calls Tryz.prog 33 #[.agg (A.cells s), .agg #[.int .i64 5, .int .i64 op, .int .i64 a, .int .i64 b, .int .i64 c, .int .i64 i, .bool u]] w fun e w' => e = .returned (.tuple #[.agg (A.cells s), .int .i64 0]) ∧ Kept w w' := by
 go_enter Tryz.func33, Tryz.ntmps33
 go_wp2_with fail
 refine (HM.out _).mono ?_; rintro e w2 ⟨rfl, hK2⟩
 have hX : Has (w.heap.size + 2) (A.cells A.none') 48 w2 := (Has.new2 _ _ _ _ _).kept hK2
 have hR : Has w.heap.size (A.cells s) 48 w2 := (((Has.new _ _ _).alloc _).alloc _).kept hK2
 have hI := ((Has.new1 _ _ _ _).alloc _).kept hK2
 have hK := ((((Kept.refl w).alloc _ _).alloc _ _).alloc _ _).trans hK2
 clear hK2
 have q0 := hI.cell 0 _ rfl
 replace hX := Lib.hid hX
 replace hR := Lib.hid hR
 replace hK := Lib.hid hK
 clear hI
 go_wp2_with (first
  | (with_reducible refine load_has (o := ⟨some 31, _, _, _, _, _⟩) rfl 48 _ rfl _ rfl hR.out Tryz.underlying48 rfl (A.info25 _) ?_)
  | (with_reducible refine store_has (o := ⟨none, Op.store 48 (.tmp 4) _, _, _, _, _⟩) rfl 48 _ _ rfl _ _ rfl rfl hX.out (A.info25 _) (by kernel_rfl) (A.one_cells _) ?_))
 exact bodyPost_ret (results_has2 rfl (w.heap.size + 2) rfl (hX.out.row _) Tryz.underlying48 rfl (A.info25 _)) rfl ⟨rfl, hK.out.row (by omega) _⟩
set_option maxRecDepth 100000 in
set_option maxHeartbeats 2000000 in
theorem rdo_6 (s : A.Regs) (op a b c i : Int) (u : Bool) (w : World)
 (HM : Hid (∀ w, Calls Tryz.prog 54 #[.agg #[.int .i64 6, .int .i64 op, .int .i64 a, .int .i64 b, .int .i64 c, .int .i64 i, .bool u]] w fun e w' => e = .returned (.bool true) ∧ Kept w w')) :
 Calls Tryz.prog 33 #[.agg (A.cells s), .agg #[.int .i64 6, .int .i64 op, .int .i64 a, .int .i64 b, .int .i64 c, .int .i64 i, .bool u]] w fun e w' => e = .returned (.tuple #[.agg (A.cells s), .int .i64 0]) ∧ Kept w w' := by
 go_enter Tryz.func33, Tryz.ntmps33
 go_wp2_with fail
 refine (HM.out _).mono ?_; rintro e w2 ⟨rfl, hK2⟩
 have hX : Has (w.heap.size + 2) (A.cells A.none') 48 w2 := (Has.new2 _ _ _ _ _).kept hK2
 have hR : Has w.heap.size (A.cells s) 48 w2 := (((Has.new _ _ _).alloc _).alloc _).kept hK2
 have hI := ((Has.new1 _ _ _ _).alloc _).kept hK2
 have hK := ((((Kept.refl w).alloc _ _).alloc _ _).alloc _ _).trans hK2
 clear hK2
 have q0 := hI.cell 0 _ rfl
 replace hX := Lib.hid hX
 replace hR := Lib.hid hR
 replace hK := Lib.hid hK
 clear hI
 go_wp2_with (first
  | (with_reducible refine load_has (o := ⟨some 31, _, _, _, _, _⟩) rfl 48 _ rfl _ rfl hR.out Tryz.underlying48 rfl (A.info25 _) ?_)
  | (with_reducible refine store_has (o := ⟨none, Op.store 48 (.tmp 4) _, _, _, _, _⟩) rfl 48 _ _ rfl _ _ rfl rfl hX.out (A.info25 _) (by kernel_rfl) (A.one_cells _) ?_))
 exact bodyPost_ret (results_has2 rfl (w.heap.size + 2) rfl (hX.out.row _) Tryz.underlying48 rfl (A.info25 _)) rfl ⟨rfl, hK.out.row (by omega) _⟩
set_option maxRecDepth 100000 in
set_option maxHeartbeats 2000000 in
theorem rdo_7 (s : A.Regs) (op a b c i : Int) (u : Bool) (w : World)
 (HM : Hid (∀ w, Calls Tryz.prog 54 #[.agg #[.int .i64 7, .int .i64 op, .int .i64 a, .int .i64 b, .int .i64 c, .int .i64 i, .bool u]] w fun e w' => e = .returned (.bool true) ∧ Kept w w')) :
 Calls Tryz.prog 33 #[.agg (A.cells s), .agg #[.int .i64 7, .int .i64 op, .int .i64 a, .int .i64 b, .int .i64 c, .int .i64 i, .bool u]] w fun e w' => e = .returned (.tuple #[.agg (A.cells s), .int .i64 0]) ∧ Kept w w' := by
 go_enter Tryz.func33, Tryz.ntmps33
 go_wp2_with fail
 refine (HM.out _).mono ?_; rintro e w2 ⟨rfl, hK2⟩
 have hX : Has (w.heap.size + 2) (A.cells A.none') 48 w2 := (Has.new2 _ _ _ _ _).kept hK2
 have hR : Has w.heap.size (A.cells s) 48 w2 := (((Has.new _ _ _).alloc _).alloc _).kept hK2
 have hI := ((Has.new1 _ _ _ _).alloc _).kept hK2
 have hK := ((((Kept.refl w).alloc _ _).alloc _ _).alloc _ _).trans hK2
 clear hK2
 have q0 := hI.cell 0 _ rfl
 replace hX := Lib.hid hX
 replace hR := Lib.hid hR
 replace hK := Lib.hid hK
 clear hI
 go_wp2_with (first
  | (with_reducible refine load_has (o := ⟨some 31, _, _, _, _, _⟩) rfl 48 _ rfl _ rfl hR.out Tryz.underlying48 rfl (A.info25 _) ?_)
  | (with_reducible refine store_has (o := ⟨none, Op.store 48 (.tmp 4) _, _, _, _, _⟩) rfl 48 _ _ rfl _ _ rfl rfl hX.out (A.info25 _) (by kernel_rfl) (A.one_cells _) ?_))
 exact bodyPost_ret (results_has2 rfl (w.heap.size + 2) rfl (hX.out.row _) Tryz.underlying48 rfl (A.info25 _)) rfl ⟨rfl, hK.out.row (by omega) _⟩
theorem quiet_to4 {P : Program} {f : FuncId} {args : Array Value} {W : World} {F : Nat → World} {v : Value}
 (h : Calls P f args W fun e w' => e = .returned v ∧ W = w') (hm : ∃ m, W = F m) :
 Calls P f args W fun e w'' => e = .returned v ∧ ∃ m, w'' = F m :=
 h.mono fun _ _ ⟨he, hw⟩ => ⟨he, by obtain ⟨m, hm⟩ := hm; exact ⟨m, by rw [← hw, hm]⟩⟩
set_option maxRecDepth 100000 in
set_option maxHeartbeats 2000000 in
theorem rdo_4 (s : A.Regs) (op a b c i bv cv X : Int) (u : Bool) (p q r t : Int) (xn xz xc xv : Bool) (hn : s.n = xn) (hz : s.z = xz) (hc : s.c = xc) (hv : s.v = xv) (ha0 : 0 ≤ a) (ha1 : a < 16) (hb0 : 0 ≤ b) (hb1 : b < 16) (hc0 : 0 ≤ c) (hc1 : c < 16) (b0 : 0 ≤ bv) (b1 : bv < 4294967296) (n0 : 0 ≤ cv) (n1 : cv < 4294967296) (hbv : s.r b.toNat = bv) (hcv : s.r c.toNat = cv) (hx0 : 0 ≤ X) (hx1 : X < 4294967296) (w : World)
 (HM : Hid (∀ w, Calls Tryz.prog 54 #[.agg #[.int .i64 4, .int .i64 op, .int .i64 a, .int .i64 b, .int .i64 c, .int .i64 i, .bool u]] w fun e w' => e = .returned (.bool true) ∧ Kept w w'))
 (C1 : Hid (∀ w, Calls Tryz.prog 55 #[.bool xn, .int .i64 31] w fun e w' => e = .returned (.int .u32 p) ∧ w = w'))
 (C2 : Hid (∀ w, Calls Tryz.prog 55 #[.bool xz, .int .i64 30] w fun e w' => e = .returned (.int .u32 q) ∧ w = w'))
 (C3 : Hid (∀ w, Calls Tryz.prog 55 #[.bool xc, .int .i64 29] w fun e w' => e = .returned (.int .u32 r) ∧ w = w'))
 (C4 : Hid (∀ w, Calls Tryz.prog 55 #[.bool xv, .int .i64 28] w fun e w' => e = .returned (.int .u32 t) ∧ w = w'))
 (HE : Hid (bits BinOp.or IntKind.u32 (bits BinOp.or IntKind.u32 (bits BinOp.or IntKind.u32 p q) r) t = X)) :
 Calls Tryz.prog 33 #[.agg (A.cells s), .agg #[.int .i64 4, .int .i64 op, .int .i64 a, .int .i64 b, .int .i64 c, .int .i64 i, .bool u]] w fun e w' => e = .returned (.tuple #[.agg (A.cells (A.show' (A.set (s) a.toNat X) X)), .int .i64 0]) ∧ Kept w w' := by
 go_enter Tryz.func33, Tryz.ntmps33
 go_wp2_with fail
 refine (HM.out _).mono ?_; rintro e w2 ⟨rfl, hK2⟩
 have hX : Has (w.heap.size + 2) (A.cells A.none') 48 w2 := (Has.new2 _ _ _ _ _).kept hK2
 have hR : Has w.heap.size (A.cells s) 48 w2 := (((Has.new _ _ _).alloc _).alloc _).kept hK2
 have hI := ((Has.new1 _ _ _ _).alloc _).kept hK2
 have hK := ((((Kept.refl w).alloc _ _).alloc _ _).alloc _ _).trans hK2
 have hl := hX.lt
 clear hK2
 have q0 := hI.cell 0 _ rfl
 have q3 := hI.cell 3 _ rfl
 have q4 := hI.cell 4 _ rfl
 have q5 := hI.cell 5 _ rfl
 have qb := hR.cell b.toNat _ (A.cell_r s b.toNat (by omega))
 have qc := hR.cell c.toNat _ (A.cell_r s c.toNat (by omega))
 rw [hbv] at qb
 rw [hcv] at qc
 replace hX := Lib.hid hX
 replace hR := Lib.hid hR
 replace hI := Lib.hid hI
 replace hK := Lib.hid hK
 go_upto_region 14 with (first
  | (with_reducible refine load_has (o := ⟨some 48, _, _, _, _, _⟩) rfl 48 _ rfl _ rfl hR.out Tryz.underlying48 rfl (A.info25 _) ?_)
  | (with_reducible refine store_last (o := ⟨none, Op.store 48 (.tmp 9) _, _, _, _, _⟩) rfl 48 _ _ rfl _ _ rfl rfl rfl (A.info25 _) (by kernel_rfl) (A.one_cells _) ?_))
 clear q0 q3 q4 q5 qb qc
 replace hX := hX.out.alloc (.cells (A.cells s) 48)
 replace hR := hR.out.alloc (.cells (A.cells s) 48)
 replace hI := hI.out.alloc (.cells (A.cells s) 48)
 replace hK := hK.out.alloc (A.cells s) 48
 have hT := Has.new (A.cells s) 48 w2
 generalize w2.heap.size = B9 at *
 generalize w2.alloc _ = w3 at *
 have q0 := hI.cell 0 _ rfl
 have q1 := hI.cell 1 _ rfl
 have q6 := hI.cell 6 _ rfl
 have qh := hR.cell 16 _ (A.cell_h s)
 have qq := hR.cell 19 _ (A.cell_c s)
 have t16 := hT.cell 16 _ (A.cell_h s)
 have t19 := hT.cell 19 _ (A.cell_c s)
 have t20 := hT.cell 20 _ (A.cell_v s)
 have f16 := hT.free 16
 have f19 := hT.free 19
 have f20 := hT.free 20
 have q17 := hR.cell 17 _ (A.cell_n s)
 have q18 := hR.cell 18 _ (A.cell_z s)
 have q20 := hR.cell 20 _ (A.cell_v s)
 replace hX := Lib.hid hX
 replace hR := Lib.hid hR
 replace hI := Lib.hid hI
 replace hK := Lib.hid hK
 replace hT := Lib.hid hT
 rw [hn] at q17
 rw [hz] at q18
 rw [hc] at qq
 rw [hv] at q20
 go_upto_region 17 with (fail)
 clear q0 q1 q6 t16 t19 t20 f16 f19 f20 qh
 go_quiet (first
  | (go_at_call 55; exact quiet_to4 (C1.out _) ⟨_, rfl⟩)
  | (go_at_call 55; exact quiet_to4 (C2.out _) ⟨_, rfl⟩)
  | (go_at_call 55; exact quiet_to4 (C3.out _) ⟨_, rfl⟩)
  | (go_at_call 55; exact quiet_to4 (C4.out _) ⟨_, rfl⟩))
 clear q17 q18 q20 qq
 replace hX := Lib.hid (show Has (w.heap.size + 2) (A.cells A.none') 48 (w3.drewN nq) from hX.out)
 replace hT := Lib.hid (show Has B9 (A.cells s) 48 (w3.drewN nq) from hT.out)
 replace hI := Lib.hid (show Has (w.heap.size + 1) _ 76 (w3.drewN nq) from hI.out)
 replace hK := Lib.hid (hK.out.drewN nq)
 clear hR
 have hR := hT
 generalize w3.drewN nq = w4 at *
 go_upto_region 38 with (fail)
 rw [HE.out]
 have q2 := hI.out.cell 2 _ rfl
 have ta := hT.out.cell a.toNat _ (A.cell_r (s) a.toNat (by omega))
 have fa := hT.out.free a.toNat
 go_upto_region 39 with (fail)
 clear q2 ta fa
 replace hT := Lib.hid (hT.out.set a.toNat (.int .u32 X))
 rw [A.set_r (s) a.toNat (by omega) X] at hT
 replace hX := Lib.hid (hX.out.other (p := ⟨B9, a.toNat, none⟩) (Nat.ne_of_lt hl) (.int .u32 X))
 replace hK := Lib.hid (hK.out.setCell (p := ⟨B9, a.toNat, none⟩) (by show w.heap.size ≤ B9; omega) (.int .u32 X))
 clear hI hR
 generalize World.setCell _ _ _ = w5 at *
 go_wp2_with (first
  | (with_reducible refine load_has (o := ⟨some 194, _, _, _, _, _⟩) rfl 48 _ rfl _ rfl hT.out Tryz.underlying48 rfl (A.info25 _) ?_)
  | (with_reducible refine store_has (o := ⟨none, Op.store 48 (.tmp 4) _, _, _, _, _⟩) rfl 48 _ _ rfl _ _ rfl rfl hX.out (A.info25 _) (by kernel_rfl) (A.one_cells _) ?_)
  | (go_at_call 50; (refine (rshow_any _ X hx0 hx1 _).mono ?_; rintro e w7 ⟨rfl, hK7⟩); (replace hX := Lib.hid (hX.out.kept hK7)); (replace hK := Lib.hid (hK.out.trans hK7)); clear hK7))
 exact bodyPost_ret (results_has2 rfl (w.heap.size + 2) rfl (hX.out.row _) Tryz.underlying48 rfl (A.info25 _)) rfl ⟨rfl, hK.out.row (by omega) _⟩
end Go.Proofs.YtpfgmfiegnkocaaGreat
