/-
  Joined: Rx0, Lo4.
-/
import Derived.Test.YtpfgmfiegnkocaaMac9
import Derived.Test.YtpfgmfiegnkocaaRm1
import Derived.Test.YtpfgmfiegnkocaaM15
/-
  The document's machine as a plain state: its block (RMac), New, Start.
-/
namespace Go.Proofs.Ytpfgmfiegnkocaa
open Go.RowKit
set_option linter.unusedVariables false
set_option linter.unusedSimpArgs false
set_option maxRecDepth 100000
set_option maxRecDepth 100000
theorem RMem.to {D C : Nat} {ws : List Int} {w w' : World} (h : RMem D C ws w) (hD : w'.heap[D]? = w.heap[D]?) (hC : w'.heap[C]? = w.heap[C]?) : RMem D C ws w' := by
  obtain ⟨cs, h3, h4⟩ := h.has; exact ⟨h.len, h.rng, h.ne, hD.trans h.box, cs, hC.trans h3, h4⟩
/-- the cells of the document's machine -/
def X.rc (D : Nat) (s : A.Regs) (pc st : Int) (si so : Value) : Array Value := #[.pointer (some ⟨D, 0, none⟩), .int .u32 (s.r 0), .int .u32 (s.r 1), .int .u32 (s.r 2), .int .u32 (s.r 3), .int .u32 (s.r 4), .int .u32 (s.r 5), .int .u32 (s.r 6), .int .u32 (s.r 7), .int .u32 (s.r 8), .int .u32 (s.r 9), .int .u32 (s.r 10), .int .u32 (s.r 11), .int .u32 (s.r 12), .int .u32 (s.r 13), .int .u32 (s.r 14), .int .u32 (s.r 15), .int .u32 s.h, .bool s.n, .bool s.z, .bool s.c, .bool s.v, .int .u32 pc, .int .i64 st, si, so]
theorem X.rc_size (D : Nat) (s : A.Regs) (pc st : Int) (si so : Value) : (X.rc D s pc st si so).size = 26 := rfl
/-- the block E is the document's machine x; all that it may turn lies in F -/
structure RMacAt (F : Nat → Prop) (E : Nat) (x : X.St) (D C : Nat) (ai : Option Addr) (ni ci : Nat) (ao : Option Addr) (no co : Nat) (w : World) : Prop where
  sub : ∀ k, F k → k < w.heap.size
  inE : F E
  inD : F D
  inC : F C
  neD : E ≠ D
  neC : E ≠ C
  box : Has E (X.rc D x.s x.pc x.st (.slice ai ni ci) (.slice ao no co)) 47 w
  mem : RMem D C x.ws w
  ins : Ws w ai ni ci x.ins
  insF : ∀ ad, ai = some ad → 0 < ni → F ad.block ∧ ad.block ≠ E ∧ ad.block ≠ C ∧ ∀ bd, ao = some bd → ad.block ≠ bd.block
  out : X.Outs ao no co x.outs w
  outF : ∀ ad, ao = some ad → F ad.block ∧ ad.block ≠ E ∧ ad.block ≠ D ∧ ad.block ≠ C
  ok : A.Ok x.s
  pc0 : 0 ≤ x.pc
  pc1 : x.pc < 4294967296
  rng : ∀ y ∈ x.outs, 0 ≤ y ∧ y < 4294967296
def RMac (F : Nat → Prop) (E : Nat) (x : X.St) (w : World) : Prop := ∃ D C ai ni ci ao no co, RMacAt F E x D C ai ni ci ao no co w
theorem RMacAt.turn {F G : Nat → Prop} {E : Nat} {x : X.St} {D C : Nat} {ai : Option Addr} {ni ci : Nat} {ao : Option Addr} {no co : Nat} {w w' : World} (h : RMacAt F E x D C ai ni ci ao no co w) (hT : Turn G w w') (hd : ∀ k, F k → ¬ G k) : RMacAt F E x D C ai ni ci ao no co w' :=
  ⟨fun k hk => Nat.lt_of_lt_of_le (h.sub k hk) hT.size, h.inE, h.inD, h.inC, h.neD, h.neC, (hT.block E (h.sub E h.inE) (hd E h.inE)).trans h.box, h.mem.to (hT.block D (h.sub D h.inD) (hd D h.inD)) (hT.block C (h.sub C h.inC) (hd C h.inC)),
    h.ins.to fun ad e hn => hT.block _ (h.sub _ (h.insF ad e hn).1) (hd _ (h.insF ad e hn).1), h.insF, h.out.to fun ad e => hT.block _ (h.sub _ (h.outF ad e).1) (hd _ (h.outF ad e).1), h.outF, h.ok, h.pc0, h.pc1, h.rng⟩
theorem RMac.turn {F G : Nat → Prop} {E : Nat} {x : X.St} {w w' : World} (h : RMac F E x w) (hT : Turn G w w') (hd : ∀ k, F k → ¬ G k) : RMac F E x w' := by
  obtain ⟨D, C, ai, ni, ci, ao, no, co, h⟩ := h
  exact ⟨D, C, ai, ni, ci, ao, no, co, h.turn hT hd⟩
theorem RMacAt.kept {F : Nat → Prop} {E : Nat} {x : X.St} {D C : Nat} {ai : Option Addr} {ni ci : Nat} {ao : Option Addr} {no co : Nat} {w w' : World} (h : RMacAt F E x D C ai ni ci ao no co w) (hK : Kept w w') : RMacAt F E x D C ai ni ci ao no co w' := h.turn (hK.turn T0) fun _ _ h => h
theorem RMac.kept {F : Nat → Prop} {E : Nat} {x : X.St} {w w' : World} (h : RMac F E x w) (hK : Kept w w') : RMac F E x w' := h.turn (hK.turn T0) fun _ _ h => h
theorem RMac.sub {F : Nat → Prop} {E : Nat} {x : X.St} {w : World} (h : RMac F E x w) : ∀ k, F k → k < w.heap.size := by obtain ⟨_, _, _, _, _, _, _, _, h⟩ := h; exact h.sub
/-- the machine's own cells turned -/
theorem RMacAt.own {F : Nat → Prop} {E : Nat} {x : X.St} {D C : Nat} {ai : Option Addr} {ni ci : Nat} {ao : Option Addr} {no co : Nat} {w w' : World} (h : RMacAt F E x D C ai ni ci ao no co w) (hB : But E w w') (s : A.Regs) (pc st : Int)
    (hm : Has E (X.rc D s pc st (.slice ai ni ci) (.slice ao no co)) 47 w') (ok : A.Ok s) (pc0 : 0 ≤ pc) (pc1 : pc < 4294967296) : RMacAt F E ⟨x.ws, s, pc, st, x.ins, x.outs⟩ D C ai ni ci ao no co w' :=
  ⟨fun k hk => Nat.lt_of_lt_of_le (h.sub k hk) hB.size, h.inE, h.inD, h.inC, h.neD, h.neC, hm, h.mem.but hB (Ne.symm h.neD) (Ne.symm h.neC), h.ins.but hB fun ad e hn => (h.insF ad e hn).2.1, h.insF,
    h.out.to fun ad e => hB.block _ (h.sub _ (h.outF ad e).1) (h.outF ad e).2.1, h.outF, ok, pc0, pc1, h.rng⟩
/-- its words turned -/
theorem RMacAt.words {F : Nat → Prop} {E : Nat} {x : X.St} {D C : Nat} {ai : Option Addr} {ni ci : Nat} {ao : Option Addr} {no co : Nat} {w w' : World} (h : RMacAt F E x D C ai ni ci ao no co w) (hB : But C w w') (ws : List Int) (hm : RMem D C ws w') : RMacAt F E ⟨ws, x.s, x.pc, x.st, x.ins, x.outs⟩ D C ai ni ci ao no co w' :=
  ⟨fun k hk => Nat.lt_of_lt_of_le (h.sub k hk) hB.size, h.inE, h.inD, h.inC, h.neD, h.neC, hB.has h.neC h.box, hm, h.ins.but hB fun ad e hn => (h.insF ad e hn).2.2.1, h.insF,
    h.out.to fun ad e => hB.block _ (h.sub _ (h.outF ad e).1) (h.outF ad e).2.2.2, h.outF, h.ok, h.pc0, h.pc1, h.rng⟩
theorem X.rshape : shapeOf Try.prog 47 = some (#[.pointer none, .int .u32 0, .int .u32 0, .int .u32 0, .int .u32 0, .int .u32 0, .int .u32 0, .int .u32 0, .int .u32 0, .int .u32 0, .int .u32 0, .int .u32 0, .int .u32 0, .int .u32 0, .int .u32 0, .int .u32 0, .int .u32 0, .int .u32 0, .bool false, .bool false, .bool false, .bool false, .int .u32 0, .int .i64 0, .slice none 0 0, .slice none 0 0], [(0, 1), (1, 21), (22, 1), (23, 1), (24, 1), (25, 1)]) := by kernel_rfl
theorem X.rbuilt (D : Nat) (ap : Option Addr) (n c : Nat) : Try.prog.built 47 [(0, .pointer (some ⟨D, 0, none⟩)), (4, .slice ap n c)] = some (X.rc D A.none' 0 0 (.slice ap n c) (.slice none 0 0)) := by
  rw [built_of X.rshape]; rfl
theorem rnew_any {w : World} (n : Nat) (hn : n ≤ 4096) {ap : Option Addr} {m c : Nat} {xs : List Int} (hx : Ws w ap m c xs) (hm : m ≤ 1000000000) :
    Calls Try.prog 29 #[.int .i64 n, .slice ap m c] w fun e w' => ∃ E, e = .returned (.tuple #[.pointer (some ⟨E, 0, none⟩), .int .i64 0]) ∧ ∃ F, RMac F E ⟨List.replicate n 0, A.none', 0, 0, xs, []⟩ w' ∧ Turn T0 w w' ∧ ∀ k, F k → w.heap.size ≤ k := by
  have C := Lib.hid (R.new_any n hn w)
  have hX := Lib.hid hx
  clear hx
  go_enter Try.func29, Try.ntmps29
  go_wp2_with (fail)
  refine C.out.mono ?_; rintro e w1 ⟨rfl, hM, hK, hsz⟩
  clear C
  replace hsz := Lib.hid hsz
  have hKa := (Kept.refl w1).alloc #[] 39
  have hO := Lib.hid (Own.new w1 w1.heap.size (Nat.le_refl _))
  have hY := Lib.hid (hX.out.kept (hK.trans hKa))
  have hr := hX.out.rng
  have hM2 := Lib.hid (hM.kept hKa)
  have hT := Lib.hid ((hK.trans hKa).turn T0)
  have hle : w1.heap.size ≤ (w1.alloc (.cells #[] 39)).heap.size := hKa.size
  replace hle := Lib.hid hle
  clear hM hK hKa hX
  go_wp2_with (first
    | (with_reducible refine append_words (o := ⟨some 19, _, _, _, _, _⟩) rfl (.tmp 17) (.tmp 18) rfl w1.heap.size w1.heap.size 0 0 [] rfl hO.out ap m c xs rfl hY.out (by omega) hle.out ?_; intro g' cap' w3 hO3 hG3)
    | ((with_reducible refine build_has (o := ⟨some 20, _, _, _, _, _⟩) rfl 47 _ rfl (X.rc (w.heap.size + 1) A.none' 0 0 (.slice (some ⟨g', 0, none⟩) (0 + m) cap') (.slice none 0 0)) ?hf4 ?_); (case hf4 => (go_simp; exact X.rbuilt _ _ _ _))))
  have hKb := (Kept.refl w3).alloc (X.rc (w.heap.size + 1) A.none' 0 0 (.slice (some ⟨g', 0, none⟩) m cap') (.slice none 0 0)) 47
  have hE := Has.new (X.rc (w.heap.size + 1) A.none' 0 0 (.slice (some ⟨g', 0, none⟩) m cap') (.slice none 0 0)) 47 w3
  generalize w3.alloc (Obj.cells _ _) = w4 at *
  rw [Nat.zero_add, List.nil_append] at hO3
  have hg := World.ownsRow.lt hO3 g' rfl
  have hs1 := hsz.out
  have hM3 : RMem (w.heap.size + 1) w.heap.size (List.replicate n 0) w3 := hM2.out.to (hG3.block _ hM2.out.lt.1 (by intro e; have := Option.some.inj e; omega)) (hG3.block _ hM2.out.lt.2 (by intro e; have := Option.some.inj e; omega))
  have hT3 : Turn T0 w w3 := ⟨hG3.os.trans hT.out.os, hG3.tape.trans hT.out.tape, hG3.output.trans hT.out.output, Nat.le_trans hT.out.size hG3.size, fun k hk hF => (hG3.block k (Nat.lt_of_lt_of_le hk hT.out.size) (by intro e; have := Option.some.inj e; omega)).trans (hT.out.block k hk hF)⟩
  have hlt3 := hM3.lt
  have hlt4 : w3.heap.size < w4.heap.size := hE.lt
  have hR : RMac (fun k => w.heap.size ≤ k ∧ k < w4.heap.size) w3.heap.size ⟨List.replicate n 0, A.none', 0, 0, xs, []⟩ w4 :=
    ⟨w.heap.size + 1, w.heap.size, some ⟨g', 0, none⟩, m, cap', none, 0, 0, fun k hk => hk.2, ⟨by omega, hlt4⟩, ⟨by omega, by omega⟩, ⟨Nat.le_refl _, by omega⟩, by omega, by omega, hE, hM3.kept hKb, (hO3.ws hr).kept hKb,
      (fun ad e _ => by cases e; exact ⟨⟨by show w.heap.size ≤ g'; omega, by show g' < w4.heap.size; omega⟩, by show g' ≠ w3.heap.size; omega, by show g' ≠ w.heap.size; omega, fun bd e' => by cases e'⟩), World.ownsRow_nil w4 0 _ _, (fun ad e => by cases e), A.ok_none, by simp, by simp, by simp⟩
  have hT4 := hT3.trans (hKb.turn T0)
  replace hR := Lib.hid hR
  replace hT4 := Lib.hid hT4
  clear hO3 hG3 hO hY hM2 hT hle hKb hE hM3 hT3
  go_ret2
  exact ⟨_, rfl, _, hR.out, hT4.out, fun k hk => hk.1⟩
def putA (cs : Array Value) (o : Nat) : List Value → Array Value
  | [] => cs
  | v :: r => putA (cs.setIfInBounds o v) (o + 1) r
theorem Has.setN {B : Nat} {t : TypeId} : ∀ (vs : List Value) (o : Nat) (cs : Array Value) (w : World), Has B cs t w → Has B (putA cs o vs) t (w.setCells B o vs)
  | [], _, _, _, h => h
  | v :: r, o, cs, w, h => by have := Has.setN r (o + 1) (cs.setIfInBounds o v) (w.setCell ⟨B, o, none⟩ v) (h.set o v); exact this
theorem X.rc_regs (D : Nat) (s s' : A.Regs) (pc st : Int) (si so : Value) : putA (X.rc D s pc st si so) 1 (A.cells s').toList = X.rc D s' pc st si so := by kernel_rfl
theorem X.rc_pc (D : Nat) (s : A.Regs) (pc st v : Int) (si so : Value) : (X.rc D s pc st si so).setIfInBounds 22 (.int .u32 v) = X.rc D s v st si so := rfl
theorem X.rc_st (D : Nat) (s : A.Regs) (pc st v : Int) (si so : Value) : (X.rc D s pc st si so).setIfInBounds 23 (.int .i64 v) = X.rc D s pc v si so := rfl
theorem X.rc_in (D : Nat) (s : A.Regs) (pc st : Int) (si so v : Value) : (X.rc D s pc st si so).setIfInBounds 24 v = X.rc D s pc st v so := rfl
theorem X.rc_out (D : Nat) (s : A.Regs) (pc st : Int) (si so v : Value) : (X.rc D s pc st si so).setIfInBounds 25 v = X.rc D s pc st si v := rfl
theorem X.rc_set (D : Nat) (s : A.Regs) (pc st : Int) (si so : Value) (j : Nat) (hj : j < 16) (v : Int) : (X.rc D s pc st si so).setIfInBounds (1 + j) (.int .u32 v) = X.rc D (A.set s j v) pc st si so :=
  A.lt16 (P := fun j => (X.rc D s pc st si so).setIfInBounds (1 + j) (.int .u32 v) = X.rc D (A.set s j v) pc st si so) ⟨by kernel_rfl, by kernel_rfl, by kernel_rfl, by kernel_rfl, by kernel_rfl, by kernel_rfl, by kernel_rfl, by kernel_rfl, by kernel_rfl, by kernel_rfl, by kernel_rfl, by kernel_rfl, by kernel_rfl, by kernel_rfl, by kernel_rfl, by kernel_rfl⟩ j hj
theorem X.rc_r (D : Nat) (s : A.Regs) (pc st : Int) (si so : Value) (j : Nat) (hj : j < 16) : (X.rc D s pc st si so)[1 + j]? = some (.int .u32 (s.r j)) :=
  A.lt16 (P := fun j => (X.rc D s pc st si so)[1 + j]? = some (.int .u32 (s.r j))) ⟨rfl, rfl, rfl, rfl, rfl, rfl, rfl, rfl, rfl, rfl, rfl, rfl, rfl, rfl, rfl, rfl⟩ j hj
theorem X.rc_range {D : Nat} {s : A.Regs} {pc st : Int} {si so : Value} {E : Nat} {t : TypeId} {w : World} (h : Has E (X.rc D s pc st si so) t w) : w.rangeAt E 1 (A.cells s).toList := by
  intro j y hj
  have hl : j < 21 := by
    rcases Nat.lt_or_ge j 21 with h1 | h1
    · exact h1
    · rw [List.getElem?_eq_none (by rw [Array.length_toList, A.size_cells]; omega)] at hj; cases hj
  refine h.cell (1 + j) y ?_
  have e : (X.rc D s pc st si so).toList = [.pointer (some ⟨D, 0, none⟩)] ++ ((A.cells s).toList ++ [.int .u32 pc, .int .i64 st, si, so]) := by kernel_rfl
  rw [← Array.getElem?_toList, e, List.getElem?_append_right (by simp), show 1 + j - ([Value.pointer (some ⟨D, 0, none⟩)] : List Value).length = j by simp, List.getElem?_append_left (by rw [Array.length_toList, A.size_cells]; omega)]
  exact hj
theorem Has.there {E : Nat} {cs : Array Value} {t : TypeId} {w : World} (h : Has E cs t w) (o n : Nat) (hn : o + n ≤ cs.size) : w.there E o n := by
  intro j hj
  have hj' : o + j < cs.size := by omega
  exact ⟨by rw [h.cell (o + j) cs[o + j] (Array.getElem?_eq_getElem hj')]; rfl, h.free _⟩
theorem rstart_any {F : Nat → Prop} {E : Nat} {x : X.St} {w : World} (h : RMac F E x w) (pc : Int) (s : A.Regs) (ok : A.Ok s) (p0 : 0 ≤ pc) (p1 : pc < 4294967296) :
    Calls Try.prog 31 #[.pointer (some ⟨E, 0, none⟩), .int .u32 pc, .agg (A.cells s)] w fun e w' => e = .returned (.tuple #[]) ∧ RMac F E ⟨x.ws, s, pc, 0, x.ins, x.outs⟩ w' ∧ But E w w' := by
  obtain ⟨D, C, ai, ni, ci, ao, no, co, h⟩ := h
  have hEw : E < w.heap.size := h.sub E h.inE
  go_enter Try.func31, Try.ntmps31
  go_upto_region 1 with (fail)
  generalize hw1 : w.alloc (Obj.cells _ _) = w1
  have hR : Has w.heap.size (A.cells s) 42 w1 := by rw [← hw1]; exact Has.new _ _ _
  have hK : Kept w w1 := by rw [← hw1]; exact (Kept.refl w).alloc _ _
  clear hw1
  have hM := h.kept hK
  have hne : w.heap.size ≠ E := by omega
  clear h
  generalize w.heap.size = g at *
  have c22 : w1.cell? ⟨E, 22, none⟩ = some (.int .u32 x.pc) := hM.box.cell 22 _ rfl
  have f22 := hM.box.free 22
  have hb := hM.box.set 22 (.int .u32 pc)
  rw [X.rc_pc] at hb
  have hB1 : But E w1 (w1.setCell ⟨E, 22, none⟩ (.int .u32 pc)) := (But.refl E w1).setCell _ _
  have hR2 := Lib.hid (hB1.has hne hR)
  go_upto_region 2 with (fail)
  generalize w1.setCell _ _ = w2 at *
  have hth := hb.there 1 21 (by rw [X.rc_size]; omega)
  have hb3 := Has.setN (A.cells s).toList 1 _ w2 hb
  rw [X.rc_regs] at hb3
  have hB3 : But E w2 (w2.setCells E 1 (A.cells s).toList) := but_setCells _ _ _ _ (But.refl E w2)
  replace hb3 := Lib.hid hb3
  replace hB3 := Lib.hid hB3
  clear hb c22 f22
  go_upto_region 3 with (first
    | (with_reducible refine load_has rfl 42 _ rfl _ rfl hR2.out Try.underlying42 rfl (A.info25 _) ?_)
    | (with_reducible refine wpList_store_mid rfl 42 _ _ rfl _ _ (A.cells s) rfl rfl hth (A.info25 _) (A.one_cells _) ?_; generalize World.setCells _ _ _ _ = w3 at *))
  have c23 : w3.cell? ⟨E, 23, none⟩ = some (.int .i64 x.st) := hb3.out.cell 23 _ rfl
  have f23 := hb3.out.free 23
  have hb4 := hb3.out.set 23 (.int .i64 0)
  rw [X.rc_st] at hb4
  have hB4 : But E w3 (w3.setCell ⟨E, 23, none⟩ (.int .i64 0)) := (But.refl E w3).setCell _ _
  have hBf := (hB1.trans hB3.out).trans hB4
  have hMf := Lib.hid (hM.own hBf s pc 0 hb4 ok p0 p1)
  have hBw := Lib.hid ((hK.but E).trans hBf)
  clear hb4 hB4 hBf hB1 hB3 hb3 hM hK hR2 hR hth
  go_wp2
  go_end0
  exact ⟨rfl, ⟨_, _, _, _, _, _, _, _, hMf.out⟩, hBw.out⟩
end Go.Proofs.Ytpfgmfiegnkocaa
/-
  What the contracts of Machine of package load stand on: New and Place that refuse, of the program and of the document; the document's machine in a walk.
-/
namespace Go.Proofs.Ytpfgmfiegnkocaa
open Go.RowKit
set_option linter.unusedVariables false
set_option linter.unusedSimpArgs false
set_option maxRecDepth 100000
theorem Lo.new_no {w : World} (n : Int) (hn : n < 0 ∨ 4096 < n) (ap : Option Addr) (m c : Nat) :
    Calls Try.prog 22 #[.int .i64 n, .slice ap m c] w fun e w' => e = .returned (.tuple #[.pointer none, .int .i64 2]) ∧ w = w' := by
  have C := Lib.hid (M.new_no n hn w)
  go_enter Try.func22, Try.ntmps22
  go_wp2_with (fail)
  refine C.out.mono ?_; rintro e w1 ⟨rfl, rfl⟩
  go_wp2
  go_ret2
  exact ⟨rfl, rfl⟩
theorem Lo.place_no {F : Nat → Prop} {B : Nat} {x : X.St} {w : World} (h : Mac F B x w) (k : Nat) (ap : Option Addr) (n c : Nat) (xs : List Int) (hx : Ws w ap n c xs) (hf : ¬ k + n ≤ x.ws.length) (hk : k ≤ 1000000) :
    Calls Try.prog 23 #[.pointer (some ⟨B, 0, none⟩), .int .i64 k, .slice ap n c] w fun e w' => e = .returned (.int .i64 11) ∧ w = w' := by
  obtain ⟨ai, ni, ci, ao, no, co, h⟩ := h
  have C := Lib.hid (M.place_no h.mem k ap n c (Nat.le_trans hx.le hx.max) (by omega) (by omega) (by omega))
  clear h hx
  go_enter Try.func23, Try.ntmps23
  go_wp2_with (fail)
  refine C.out.mono ?_; rintro e w1 ⟨rfl, rfl⟩
  go_wp2
  go_ret
  exact ⟨rfl, rfl⟩
theorem Lo.rmem_no {w : World} (n : Int) (hn : n < 0 ∨ 4096 < n) :
    Calls Try.prog 47 #[.int .i64 n] w fun e w' => e = .returned (.tuple #[.pointer none, .int .i64 2]) ∧ w = w' := by
  rcases Int.lt_or_le n 0 with h | h
  · go_enter Try.func47, Try.ntmps47
    go_wp2
    go_ret2
    exact ⟨rfl, rfl⟩
  · have h1 : 4096 < n := by omega
    have h2 : ¬ n < 0 := by omega
    go_enter Try.func47, Try.ntmps47
    go_wp2
    go_ret2
    exact ⟨rfl, rfl⟩
theorem Lo.rnew_no {w : World} (n : Int) (hn : n < 0 ∨ 4096 < n) (ap : Option Addr) (m c : Nat) :
    Calls Try.prog 29 #[.int .i64 n, .slice ap m c] w fun e w' => e = .returned (.tuple #[.pointer none, .int .i64 2]) ∧ w = w' := by
  have C := Lib.hid (Lo.rmem_no (w := w) n hn)
  go_enter Try.func29, Try.ntmps29
  go_wp2_with (fail)
  refine C.out.mono ?_; rintro e w1 ⟨rfl, rfl⟩
  go_wp2
  go_ret2
  exact ⟨rfl, rfl⟩
/-- the document's machine x, made since w0; nothing of w0 has turned -/
def RLive (w0 : World) (E : Nat) (x : X.St) (w : World) : Prop := ∃ F, RMac F E x w ∧ (∀ k, F k → w0.heap.size ≤ k) ∧ Below w0.heap.size w0 w
theorem RLive.below {w0 : World} {B : Nat} {x : X.St} {w : World} (h : RLive w0 B x w) : Below w0.heap.size w0 w := by obtain ⟨F, h1, h2, h3⟩ := h; exact h3
theorem RLive.turn0 {w0 : World} {B : Nat} {x : X.St} {w w' : World} (h : RLive w0 B x w) (hT : Turn T0 w w') : RLive w0 B x w' := by
  obtain ⟨F, h1, h2, h3⟩ := h
  exact ⟨F, h1.turn hT fun _ _ h => h, h2, h3.trans (hT.below w0.heap.size h3.size fun _ h => h.elim)⟩
theorem RLive.kept {w0 : World} {B : Nat} {x : X.St} {w w' : World} (h : RLive w0 B x w) (hK : Kept w w') : RLive w0 B x w' := h.turn0 (hK.turn T0)
theorem Lo.t0 {w w' : World} (h : Below w.heap.size w w') : Turn T0 w w' := ⟨h.os, h.tape, h.output, h.size, fun k hk _ => h.block k hk⟩
theorem Live.keep {w0 : World} {B : Nat} {x : X.St} {w w' : World} (h : Live w0 B x w) (hK : Below w.heap.size w w') : Live w0 B x w' := h.turn0 (Lo.t0 hK)
theorem RLive.keep {w0 : World} {B : Nat} {x : X.St} {w w' : World} (h : RLive w0 B x w) (hK : Below w.heap.size w w') : RLive w0 B x w' := h.turn0 (Lo.t0 hK)
/-- seen from a world ahead -/
theorem Live.lift {w0 w1 : World} {B : Nat} {x : X.St} {w : World} (h : Live w1 B x w) (hb : Below w0.heap.size w0 w1) : Live w0 B x w := by
  obtain ⟨F, h1, h2, h3⟩ := h
  exact ⟨F, h1, fun k hk => Nat.le_trans hb.size (h2 k hk), hb.trans (h3.mono hb.size)⟩
theorem RLive.lift {w0 w1 : World} {B : Nat} {x : X.St} {w : World} (h : RLive w1 B x w) (hb : Below w0.heap.size w0 w1) : RLive w0 B x w := by
  obtain ⟨F, h1, h2, h3⟩ := h
  exact ⟨F, h1, fun k hk => Nat.le_trans hb.size (h2 k hk), hb.trans (h3.mono hb.size)⟩
theorem Lo.rnew_live {w : World} (n : Nat) (hn : n ≤ 4096) {ap : Option Addr} {m c : Nat} {xs : List Int} (hx : Ws w ap m c xs) (hm : m ≤ 1000000000) :
    Calls Try.prog 29 #[.int .i64 n, .slice ap m c] w fun e w' => ∃ B, e = .returned (.tuple #[.pointer (some ⟨B, 0, none⟩), .int .i64 0]) ∧ RLive w B ⟨List.replicate n 0, A.none', 0, 0, xs, []⟩ w' := by
  refine (rnew_any n hn hx hm).mono ?_
  rintro e w' ⟨B, he, F, h1, h2, h3⟩
  exact ⟨B, he, F, h1, h3, h2.kept0⟩
theorem Lo.rstart_live {w0 : World} {B : Nat} {x : X.St} {w : World} (h : RLive w0 B x w) (pc : Int) (s : A.Regs) (ok : A.Ok s) (p0 : 0 ≤ pc) (p1 : pc < 4294967296) :
    Calls Try.prog 31 #[.pointer (some ⟨B, 0, none⟩), .int .u32 pc, .agg (A.cells s)] w fun e w' => e = .returned (.tuple #[]) ∧ RLive w0 B ⟨x.ws, s, pc, 0, x.ins, x.outs⟩ w' := by
  obtain ⟨F, h1, h2, h3⟩ := h
  refine (rstart_any h1 pc s ok p0 p1).mono ?_
  rintro e w' ⟨he, q1, q2⟩
  obtain ⟨D, C, ai, ni, ci, ao, no, co, h⟩ := h1
  exact ⟨he, F, q1, h2, h3.trans ((q2.turn h.inE).below w0.heap.size h3.size h2)⟩
abbrev Lo.r0 : A.Regs := A.none'
/-- the memory of the document's machine, its Place -/
theorem Lo.rplace_live {w0 : World} {B : Nat} {x : X.St} {w : World} (h : RLive w0 B x w) (k : Nat) {ap : Option Addr} {n c : Nat} {xs : List Int} (hx : Ws w0 ap n c xs) (hf : k + n ≤ x.ws.length) :
    ∃ D, w.cell? ⟨B, 0, none⟩ = some (.pointer (some ⟨D, 0, none⟩)) ∧ Calls Try.prog 30 #[.pointer (some ⟨D, 0, none⟩), .int .i64 k, .slice ap n c] w fun e w' => e = .returned (.int .i64 0) ∧ RLive w0 B ⟨M.placed x.ws k xs, x.s, x.pc, x.st, x.ins, x.outs⟩ w' := by
  obtain ⟨F, ⟨D, C, ai, ni, ci, ao, no, co, h1⟩, h2, h3⟩ := h
  refine ⟨D, h1.box.cell 0 _ rfl, ?_⟩
  have hC := h2 C h1.inC
  refine (R.place_yes h1.mem k ap n c xs (hx.below (w0 := w0) (Nat.le_refl _) h3) (fun ad e hn => by subst e; have := hx.rw.lt hn; omega) hf).mono ?_
  rintro e w' ⟨he, hm, hB⟩
  exact ⟨he, F, ⟨D, C, ai, ni, ci, ao, no, co, h1.words hB _ hm⟩, h2, h3.trans ((hB.turn h1.inC).below w0.heap.size h3.size h2)⟩
theorem Lo.rplace_no {w0 : World} {B : Nat} {x : X.St} {w : World} (h : RLive w0 B x w) (k : Nat) (ap : Option Addr) (n c : Nat) (hn : n ≤ maxLen) (hk : k ≤ 1000000) (hf : ¬ k + n ≤ x.ws.length) :
    ∃ D, w.cell? ⟨B, 0, none⟩ = some (.pointer (some ⟨D, 0, none⟩)) ∧ Calls Try.prog 30 #[.pointer (some ⟨D, 0, none⟩), .int .i64 k, .slice ap n c] w fun e w' => e = .returned (.int .i64 11) ∧ w = w' := by
  obtain ⟨F, ⟨D, C, ai, ni, ci, ao, no, co, h1⟩, h2, h3⟩ := h
  exact ⟨D, h1.box.cell 0 _ rfl, R.place_no h1.mem k ap n c hn (by omega) (by omega) (by omega)⟩
end Go.Proofs.Ytpfgmfiegnkocaa
