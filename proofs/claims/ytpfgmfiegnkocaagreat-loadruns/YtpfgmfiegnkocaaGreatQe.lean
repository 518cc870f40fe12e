import Derived.ChangeKeysEq
import Derived.Deep.Cut
import Derived.Laws.Bits128
import Derived.Test.YtpfgmfiegnkocaaGreatQd
namespace Go.Proofs.YtpfgmfiegnkocaaGreat
open Go.RowKit
set_option linter.unusedVariables false
set_option linter.unusedSimpArgs false
set_option maxRecDepth 100000
theorem But.drew2 {B : Nat} {a b : World} (h : But B a b) : But B a.drew b.drew := ⟨h.os, h.tape, h.output, h.size, h.block, h.froze⟩
theorem Mac.setPc {F : Nat → Prop} {B : Nat} {x : X.St} {w : World} (h : Mac F B x w) (pc : Int) (p0 : 0 ≤ pc) (p1 : pc < 4294967296) : Mac F B ⟨x.ws, x.s, pc, x.st, x.ins, x.outs⟩ (w.setCell ⟨B, 4120, none⟩ (.int .u32 pc)) ∧ But B w (w.setCell ⟨B, 4120, none⟩ (.int .u32 pc)) := by
 obtain ⟨ai, ni, ci, ao, no, co, h⟩ := h
 have hB : But B w (w.setCell ⟨B, 4120, none⟩ (.int .u32 pc)) := (But.refl B w).setCell _ _
 have h2 := h.mem.set1 23 (.int .u32 pc)
 rw [X.tl_pc] at h2
 exact ⟨⟨ai, ni, ci, ao, no, co, h.own hB _ _ _ _ h2 h.ok p0 p1⟩, hB⟩
theorem Mac.setRegs {F : Nat → Prop} {B : Nat} {x : X.St} {w : World} (h : Mac F B x w) (s : A.Regs) (ok : A.Ok s) : Mac F B ⟨x.ws, s, x.pc, x.st, x.ins, x.outs⟩ (w.setCells B 4099 (A.cells s).toList) ∧ But B w (w.setCells B 4099 (A.cells s).toList) := by
 obtain ⟨ai, ni, ci, ao, no, co, h⟩ := h
 have hB : But B w (w.setCells B 4099 (A.cells s).toList) := but_setCells _ _ _ _ (But.refl B w)
 have h1 := h.mem.setN (A.cells s).toList 2
 rw [X.tl_regs] at h1
 exact ⟨⟨ai, ni, ci, ao, no, co, h.own hB _ _ _ _ h1 ok h.pc0 h.pc1⟩, hB⟩
theorem start_any {F : Nat → Prop} {B : Nat} {x : X.St} {w : World} (h : Mac F B x w) (pc : Int) (s : A.Regs) (ok : A.Ok s) (p0 : 0 ≤ pc) (p1 : pc < 4294967296) :
 Calls Tryz.prog 22 #[.pointer (some ⟨B, 0, none⟩), .int .u32 pc, .agg (A.cells s)] w fun e w' => e = .returned (.tuple #[]) ∧ Mac F B ⟨x.ws, s, pc, 0, x.ins, x.outs⟩ w' ∧ But B w w' := by
 have hBg : B < w.heap.size := h.sub B h.inB
 go_enter Tryz.func22, Tryz.ntmps22
 go_upto_region 1 with (fail)
 generalize hw1 : w.alloc (Obj.cells _ _) = w1
 have hR : Has w.heap.size (A.cells s) 48 w1 := by rw [← hw1]; exact Has.new _ _ _
 have hK : Kept w w1 := by rw [← hw1]; exact (Kept.refl w).alloc _ _
 clear hw1
 have hgB : w.heap.size ≠ B := by omega
 generalize w.heap.size = g at *
 have hMd := Lib.hid (show Mac F B x w1.drew from h.kept hK.drew)
 have hM1 := Lib.hid (show Mac F B x w1 from h.kept hK)
 have hKd := Lib.hid (show Kept w w1.drew from hK.drew)
 have cq := hMd.out.pc
 have fq := hMd.out.free 4120
 clear h hK
 refine wp_region_held_drew (S := fun wz => Has g (A.cells s) 48 wz) (by kernel_rfl) ?_ (fun hHeld => ?_)
 · exact hR
 refine tk 0 _ (v := ?_) hHeld ?_ (tk 1 _ (v := ?_) hHeld ?_ (tk 2 _ (v := ?_) hHeld ?_ (tk 3 _ (v := ?_) hHeld ?_ ?_)))
 all_goals try (intro wz hSw; (try dsimp only at hSw); go_simp; with_reducible rfl)
 try simp only [Act.put, pq]
 refine tk 4 _ (v := ?_) hHeld ?_ ?_
 rotate_left
 · (intro wz hSw; refine exec_load_has 48 (Operand.tmp 5) ?_ _ ?_ hSw Tryz.underlying48 rfl (A.info25 _) <;> rfl)
 try simp only [Act.put, pq]
 refine tk 5 _ (v := ?_) hHeld ?_ (tk 6 _ (v := ?_) hHeld ?_ ?_)
 all_goals try (intro wz hSw; (try dsimp only at hSw); go_simp; with_reducible rfl)
 try simp only [Act.put, pq]
 refine wpAnyH_ready (rs := [7]) (by kernel_rfl) (by simp) ?_
 refine AllReadyH.cons (o := _) rfl (fun K hK => ?_) (AllReadyH.nil)
 go_simp
 generalize hwa : World.drew (World.setCell _ _ _) = wa
 have hMa : Mac F B ⟨x.ws, x.s, pc, x.st, x.ins, x.outs⟩ wa ∧ But B w1.drew wa := by rw [← hwa]; exact ⟨(hM1.out.setPc pc p0 p1).1.kept (Kept.refl _).drew, (hM1.out.setPc pc p0 p1).2.drew2⟩
 clear hwa
 have hN := (show (fun wz => Has g (A.cells s) 48 wz) _ from hMa.2.has hgB hHeld)
 clear hHeld
 refine hK.out _ _ hN (fun hHeld => ?_)
 clear hK K hN
 try simp only [Act.put, pq]
 refine tk 8 _ (v := ?_) hHeld ?_ (tk 9 _ (v := ?_) hHeld ?_ ?_)
 all_goals try (intro wz hSw; (try dsimp only at hSw); go_simp; with_reducible rfl)
 try simp only [Act.put, pq]
 refine wpAnyH_ready (rs := [10]) (by kernel_rfl) (by simp) ?_
 refine AllReadyH.cons (o := _) rfl (fun K hK => ?_) (AllReadyH.nil)
 have hthb := hMa.1.there
 refine wp_store_mid (op := { dst := none, op := Op.store 48 (Operand.tmp 14) (Operand.tmp 10), type := 0, pos := "machine.go:46", after := #[eD 9, eD 4, eC 7, eP 0, eP 1, eT 2, eP 3, eP 4, eP 5, eP 6, eP 7], guard := none }) 48 _ _ rfl _ _ (A.cells s) rfl rfl hthb (A.info25 _) (A.one_cells _) ?_
 have hMb := hMa.1.setRegs s ok
 generalize World.setCells _ _ _ _ = wb at *
 have hN := (show (fun wz => Has g (A.cells s) 48 wz) _ from hMb.2.has hgB hHeld)
 clear hHeld
 refine hK.out _ _ hN (fun hHeld => ?_)
 clear hK K hN
 try simp only [Act.put, pq]
 refine tk 11 _ (v := ?_) hHeld ?_ (tk 12 _ (v := ?_) hHeld ?_ ?_)
 all_goals try (intro wz hSw; (try dsimp only at hSw); go_simp; with_reducible rfl)
 try simp only [Act.put, pq]
 refine wpAnyH_ready (rs := [13]) (by kernel_rfl) (by simp) ?_
 refine AllReadyH.cons (o := _) rfl (fun K hK => ?_) (AllReadyH.nil)
 have q1 := hMb.1.st
 have q2 := hMb.1.free 4121
 go_simp
 have hMc := hMb.1.setSt 0
 have hN := (show (fun wz => Has g (A.cells s) 48 wz) _ from hMc.2.has hgB hHeld)
 clear hHeld
 refine hK.out _ _ hN (fun hHeld => ?_)
 clear hK K hN
 try simp only [Act.put, pq]
 refine wpAnyH_done (by kernel_rfl) ?_ _
 have hB := (((hKd.out.but B).trans hMa.2).trans hMb.2).trans hMc.2
 replace hB := Lib.hid hB
 replace hMc := Lib.hid hMc.1
 clear hMa hMb hHeld
 generalize World.setCell wb _ _ = wc at *
 go_wp2
 go_end0
 exact ⟨rfl, hMc.out, hB.out⟩
theorem place_any {F : Nat → Prop} {B : Nat} {x : X.St} {w : World} (h : Mac F B x w) (k : Nat) (ap : Option Addr) (n c : Nat) (xs : List Int) (hx : Ws w ap n c xs) (hf : k + n ≤ x.ws.length) :
 Calls Tryz.prog 21 #[.pointer (some ⟨B, 0, none⟩), .int .i64 k, .slice ap n c] w fun e w' => e = .returned (.int .i64 0) ∧ Mac F B ⟨M.placed x.ws k xs, x.s, x.pc, x.st, x.ins, x.outs⟩ w' ∧ But B w w' := by
 obtain ⟨ai, ni, ci, ao, no, co, h⟩ := h
 have C := Lib.hid (M.place_yes h.mem k ap n c xs hx hf)
 have hh := Lib.hid h
 clear h hx
 go_enter Tryz.func21, Tryz.ntmps21
 go_wp2_with (fail)
 refine C.out.mono ?_; rintro e w2 ⟨rfl, hM, hB⟩
 have hE := Lib.hid (hh.out.own hB _ _ _ _ hM hh.out.ok hh.out.pc0 hh.out.pc1)
 replace hB := Lib.hid hB
 clear C hM hh
 go_wp2
 go_ret
 exact ⟨rfl, ⟨_, _, _, _, _, _, hE.out⟩, hB.out⟩
theorem words_any {F : Nat → Prop} {B : Nat} {x : X.St} {w : World} (h : Mac F B x w) :
 Calls Tryz.prog 13 #[.pointer (some ⟨B, 0, none⟩)] w fun e w' => ∃ g, e = .returned (.slice (some ⟨g, 0, none⟩) x.ws.length x.ws.length) ∧ w.heap.size ≤ g ∧ Ws w' (some ⟨g, 0, none⟩) x.ws.length x.ws.length x.ws ∧ Kept w w' := by
 obtain ⟨ai, ni, ci, ao, no, co, h⟩ := h
 have C := Lib.hid (M.words_any h.mem)
 clear h
 go_enter Tryz.func13, Tryz.ntmps13
 go_wp2_with (fail)
 refine C.out.mono ?_; rintro e w2 ⟨g, rfl, p1, p2, p3⟩
 replace p2 := Lib.hid p2
 replace p3 := Lib.hid p3
 clear C
 go_wp2
 go_ret
 exact ⟨g, rfl, p1, p2.out, p3.out⟩
def T0 : Nat → Prop := fun _ => False
theorem clone_any {w : World} {ap : Option Addr} {n c : Nat} {xs : List Int} (h : Ws w ap n c xs) (hn : n ≤ 1000000000) :
 Calls Tryz.prog 36 #[.slice ap n c] w fun e w' => ∃ A' c', e = .returned (.slice A' n c') ∧ Ws w' A' n c' xs ∧ Turn T0 w w' ∧ ∀ ad, A' = some ad → w.heap.size ≤ ad.block ∧ ad.block < w'.heap.size := by
 cases ap with
 | none =>
   have hc := h.nil rfl
   have hl := h.le
   subst hc
   obtain rfl : n = 0 := by omega
   have hx : xs = [] := List.eq_nil_of_length_eq_zero h.len
   subst hx
   have hnil : ∀ W, (binOp .eql 22 (.slice none 0 0) (.slice none 0 0)).run Tryz.prog W = .ok (.bool true) W := fun W => Lib.run_eql_slice_nil W _ _ _ _ _ _ _ Tryz.underlying22
   go_enter Tryz.func36, Tryz.ntmps36
   go_wp2
   go_ret
   exact ⟨none, 0, rfl, Ws.empty w, Turn.refl _ w, by simp⟩
 | some ad =>
   have hr := h.rng
   have hK := (Kept.refl w).alloc #[] 43
   have hY := Lib.hid (h.kept hK)
   have hO := Lib.hid (Own.new w w.heap.size (Nat.le_refl _))
   have hT := Lib.hid (hK.turn T0)
   have hsz : w.heap.size ≤ (w.alloc (.cells #[] 43)).heap.size := hK.size
   replace hsz := Lib.hid hsz
   clear h hK
   have hnil : ∀ W, (binOp .eql 22 (.slice (some ad) n c) (.slice none 0 0)).run Tryz.prog W = .ok (.bool false) W := fun W => Lib.run_eql_slice_nil W _ _ _ _ _ _ _ Tryz.underlying22
   go_enter Tryz.func36, Tryz.ntmps36
   go_wp2_with (with_reducible refine append_words (o := ⟨some 7, _, _, _, _, _⟩) rfl (.tmp 5) (.tmp 6) rfl w.heap.size w.heap.size 0 0 [] rfl hO.out (some ad) n c xs rfl hY.out (by omega) hsz.out ?_; intro g' cap' w3 hO3 hG3)
   rw [Nat.zero_add, List.nil_append] at hO3
   have hq := hO3.has
   have hlt := (World.ownsRow.lt hO3 g' rfl)
   have hW := Lib.hid (hO3.ws hr)
   have hT3 : Turn T0 w w3 := ⟨hG3.os.trans hT.out.os, hG3.tape.trans hT.out.tape, hG3.output.trans hT.out.output, Nat.le_trans hT.out.size hG3.size, fun k hk hF => (hG3.block k (Nat.lt_of_lt_of_le hk hT.out.size) (by intro e; cases e; omega)).trans (hT.out.block k hk hF)⟩
   replace hT3 := Lib.hid hT3
   clear hG3 hO3 hY hO hT hsz
   go_ret
   exact ⟨some ⟨g', 0, none⟩, cap', by simp, hW.out, hT3.out, fun bd e => by cases e; exact ⟨hq.1, hlt.2⟩⟩
theorem outs_any {F : Nat → Prop} {B : Nat} {x : X.St} {w : World} (h : Mac F B x w) (hn : x.outs.length ≤ 1000000000) :
 Calls Tryz.prog 15 #[.pointer (some ⟨B, 0, none⟩)] w fun e w' => ∃ A' c', e = .returned (.slice A' x.outs.length c') ∧ Ws w' A' x.outs.length c' x.outs ∧ Turn T0 w w' ∧ ∀ ad, A' = some ad → w.heap.size ≤ ad.block ∧ ad.block < w'.heap.size := by
 obtain ⟨ai, ni, ci, ao, no, co, h⟩ := h
 have hw := h.out.ws h.rng
 have hl := h.out.len
 subst hl
 have hc : w.cell? ⟨B, 4098, none⟩ = some (.slice ao x.outs.length co) := h.mem.tail 1 _ rfl
 have C := Lib.hid (clone_any hw hn)
 clear h hw
 go_enter Tryz.func15, Tryz.ntmps15
 go_wp2_with (fail)
 refine C.out.mono ?_; rintro e w2 ⟨A', c', rfl, p1, p2, p3⟩
 replace p1 := Lib.hid p1
 replace p2 := Lib.hid p2
 replace p3 := Lib.hid p3
 clear C
 go_wp2
 go_ret
 exact ⟨A', c', rfl, p1.out, p2.out, p3.out⟩
theorem lay_at (off : Nat) : ∀ (l : List Value) (n : Nat) (acc : Array Value) (k : Nat), ((l.zipIdx n).foldl (fun cs (p : Value × Nat) => cs.setIfInBounds (off + p.2) p.1) acc)[k]? = if off + n ≤ k ∧ k < off + n + l.length ∧ k < acc.size then l[k - (off + n)]? else acc[k]?
 | [], n, acc, k => by simp; omega
 | v :: r, n, acc, k => by
   rw [List.zipIdx_cons, List.foldl_cons, lay_at off r (n + 1) (acc.setIfInBounds (off + n) v) k]
   simp only [Array.size_setIfInBounds, List.length_cons]
   by_cases c1 : off + n = k
   · subst c1
     rw [if_neg (by omega)]
     by_cases c2 : off + n < acc.size
     · rw [if_pos (by omega), Array.getElem?_setIfInBounds_self_of_lt c2, Nat.sub_self]; rfl
     · rw [if_neg (by omega), Array.getElem?_eq_none (by simp; omega), Array.getElem?_eq_none (by omega)]
   · rw [Array.getElem?_setIfInBounds_ne c1]
     by_cases c2 : off + (n + 1) ≤ k ∧ k < off + (n + 1) + r.length ∧ k < acc.size
     · rw [if_pos c2, if_pos (by omega), show k - (off + n) = (k - (off + (n + 1))) + 1 by omega, List.getElem?_cons_succ]
     · rw [if_neg c2, if_neg (by omega)]
theorem lay_size (off : Nat) : ∀ (l : List Value) (n : Nat) (acc : Array Value), ((l.zipIdx n).foldl (fun cs (p : Value × Nat) => cs.setIfInBounds (off + p.2) p.1) acc).size = acc.size
 | [], n, acc => rfl
 | v :: r, n, acc => by rw [List.zipIdx_cons, List.foldl_cons, lay_size off r (n + 1)]; simp
def X.lay (z : Array Value) (off : Nat) (cs : Array Value) : Array Value := (cs.toList.zipIdx 0).foldl (fun cs (p : Value × Nat) => cs.setIfInBounds (off + p.2) p.1) z
theorem X.lay_at (z : Array Value) (off : Nat) (cs : Array Value) (k : Nat) (hz : off + cs.size ≤ z.size) : (X.lay z off cs)[k]? = if off ≤ k ∧ k < off + cs.size then cs[k - off]? else z[k]? := by
 unfold X.lay
 rw [Go.Proofs.YtpfgmfiegnkocaaGreat.lay_at]
 simp only [Nat.add_zero, Array.length_toList]
 by_cases c : off ≤ k ∧ k < off + cs.size
 · rw [if_pos (by omega), if_pos c]; simp
 · rw [if_neg (by omega), if_neg c]
theorem X.lay_size (z : Array Value) (off : Nat) (cs : Array Value) : (X.lay z off cs).size = z.size := Go.Proofs.YtpfgmfiegnkocaaGreat.lay_size off _ _ _
theorem fill_cons {place : Nat → Option (Nat × Nat)} {z : Array Value} {i off n : Nat} {v : Value} {rest : List (Nat × Value)} (hp : place i = some (off, n)) (hv : v.cells.size = n) (hz : off + n ≤ z.size) : Instr.fill place z ((i, v) :: rest) = Instr.fill place (X.lay z off v.cells) rest := by
 rw [Instr.fill]
 simp only [hp]
 rw [if_neg (by simp; omega)]
 congr 1
 unfold X.lay
 rw [← Array.foldl_toList, Array.toList_zipIdx]
def X.z68 : Array Value := (List.replicate 4096 (Value.int .u32 0) ++ [Value.int .i64 0, .slice none 0 0, .slice none 0 0]).toArray
def X.z70 : Array Value := (List.replicate 4096 (Value.int .u32 0) ++ (Value.int .i64 0 :: X.tl (.slice none 0 0) (.slice none 0 0) A.none' 0 0)).toArray
theorem X.shape68 : shapeOf Tryz.prog 70 = some (X.z68, [(0, 4097), (4097, 1), (4098, 1)]) := by kernel_rfl
theorem X.shape70 : shapeOf Tryz.prog 72 = some (X.z70, [(0, 4099), (4099, 21), (4120, 1), (4121, 1)]) := by kernel_rfl
theorem size_rep (k : Nat) (a : Value) (l : List Value) : (List.replicate k a ++ l).toArray.size = k + l.length := by simp
theorem at_rep (k : Nat) (a : Value) (l : List Value) (j : Nat) (hj : k ≤ j) : (List.replicate k a ++ l).toArray[j]? = l[j - k]? := by
 rw [List.getElem?_toArray, List.getElem?_append_right (by simpa using hj)]; simp
theorem X.z68_size : X.z68.size = 4099 := size_rep 4096 _ _
theorem X.z70_size : X.z70.size = 4122 := size_rep 4096 _ _
theorem X.built68 (cs : Array Value) (hs : cs.size = 4097) (v : Value) (hv : v.cells = #[v]) : Tryz.prog.built 70 [(0, .agg cs), (1, v)] = some (X.lay (X.lay X.z68 0 cs) 4097 #[v]) := by
 rw [built_of X.shape68, fill_cons (v := .agg cs) (off := 0) (n := 4097) rfl hs (by rw [X.z68_size]; omega), fill_cons (off := 4097) (n := 1) rfl (by rw [hv]; rfl) (by rw [X.lay_size, X.z68_size]; omega), hv]
 rfl
theorem X.built70 (cs : Array Value) (hs : cs.size = 4099) : Tryz.prog.built 72 [(0, .agg cs), (3, .int .i64 0)] = some (X.lay (X.lay X.z70 0 cs) 4121 #[.int .i64 0]) := by
 rw [built_of X.shape70, fill_cons (v := .agg cs) (off := 0) (n := 4099) rfl hs (by rw [X.z70_size]; omega), fill_cons (off := 4121) (n := 1) rfl rfl (by rw [X.lay_size, X.z70_size]; omega)]
 rfl
theorem MemT.machine {B : Nat} {ws : List Int} {cs : Array Value} {w w' : World} {ap : Option Addr} {n c : Nat} (hl : ws.length ≤ 4096) (hr : ∀ x ∈ ws, 0 ≤ x ∧ x < 4294967296) (hs : cs.size = 4097) (h3 : cs[4096]? = some (.int .i64 (ws.length : Int)))
 (h4 : ∀ (j : Nat) (x : Int), ws[j]? = some x → cs[j]? = some (Value.int .u32 x)) (hB : Has B (X.lay (X.lay X.z70 0 (X.lay (X.lay X.z68 0 cs) 4097 #[.slice ap n c])) 4121 #[.int .i64 0]) 72 w') :
 MemT 72 (X.tl (.slice ap n c) (.slice none 0 0) A.none' 0 0) B ws w' := by
 have s1 : (X.lay (X.lay X.z68 0 cs) 4097 #[.slice ap n c]).size = 4099 := by rw [X.lay_size, X.lay_size, X.z68_size]
 have a1 : ∀ k, k < 4097 → (X.lay (X.lay X.z70 0 (X.lay (X.lay X.z68 0 cs) 4097 #[.slice ap n c])) 4121 #[.int .i64 0])[k]? = cs[k]? := by
  intro k hk
  rw [X.lay_at _ _ _ _ (by rw [X.lay_size, X.z70_size]; simp), if_neg (by omega), X.lay_at _ _ _ _ (by rw [s1, X.z70_size]; omega), if_pos (by omega), Nat.sub_zero, X.lay_at _ _ _ _ (by rw [X.lay_size, X.z68_size]; simp), if_neg (by omega), X.lay_at _ _ _ _ (by rw [hs, X.z68_size]; omega), if_pos (by omega), Nat.sub_zero]
 refine ⟨hl, hr, _, hB, ?_, ?_, fun j x hj => ?_, fun j => ?_⟩
 · rw [X.lay_size, X.lay_size, X.z70_size, X.tl_len]
 · rw [a1 4096 (by omega)]; exact h3
 · have hj' : j < ws.length := by
    rcases Nat.lt_or_ge j ws.length with h1 | h1
    · exact h1
    · rw [List.getElem?_eq_none h1] at hj; cases hj
   rw [a1 j (by omega)]
   exact h4 j x hj
 · by_cases c24 : j = 24
   · subst c24
     rw [X.lay_at _ _ _ _ (by rw [X.lay_size, X.z70_size]; simp), if_pos (by simp)]
     rfl
   · rw [X.lay_at _ _ _ _ (by rw [X.lay_size, X.z70_size]; simp), if_neg (by simp; omega), X.lay_at _ _ _ _ (by rw [s1, X.z70_size]; omega)]
     by_cases c2 : j < 2
     · rw [if_pos (by omega), Nat.sub_zero, X.lay_at _ _ _ _ (by rw [X.lay_size, X.z68_size]; simp)]
       by_cases c0 : j = 0
       · subst c0
         rw [if_pos (by simp)]
         rfl
       · obtain rfl : j = 1 := by omega
         rw [if_neg (by simp), X.lay_at _ _ _ _ (by rw [hs, X.z68_size]; omega), if_neg (by omega)]
         exact at_rep 4096 _ _ 4098 (by omega)
     · rw [if_neg (by omega)]
       refine (at_rep 4096 _ _ (4097 + j) (by omega)).trans ?_
       rw [show 4097 + j - 4096 = j + 1 by omega, List.getElem?_cons_succ]
       obtain ⟨m, rfl⟩ : ∃ m, j = m + 2 := ⟨j - 2, by omega⟩
       rfl
theorem A.ok_none : A.Ok A.none' := ⟨fun j _ => by simp [A.none'], by simp [A.none'], by simp [A.none']⟩
theorem new_any {w : World} (n : Nat) (hn : n ≤ 4096) {ap : Option Addr} {m c : Nat} {xs : List Int} (hx : Ws w ap m c xs) (hm : m ≤ 1000000000) :
 Calls Tryz.prog 20 #[.int .i64 n, .slice ap m c] w fun e w' => ∃ B, e = .returned (.tuple #[.pointer (some ⟨B, 0, none⟩), .int .i64 0]) ∧ ∃ F, Mac F B ⟨List.replicate n 0, A.none', 0, 0, xs, []⟩ w' ∧ Turn T0 w w' ∧ ∀ k, F k → w.heap.size ≤ k := by
 have C := Lib.hid (M.new_yes n hn w)
 have hX := Lib.hid hx
 clear hx
 go_enter Tryz.func20, Tryz.ntmps20
 go_wp2_with (fail)
 refine C.out.mono ?_; rintro e w1 ⟨rfl, hM, hK, hsz⟩
 clear C
 go_upto_region 4 with (fail)
 have hKd := Lib.hid (show Kept w w1.drew from hK.drew)
 have hl := hM.len
 have hrng := hM.rng
 obtain ⟨cs, hh, hcs, hc3, hc4, _⟩ := hM.has
 replace hcs : cs.size = 4097 := hcs
 have hS0 : Has w.heap.size cs 68 w1.drew ∧ Ws w1.drew ap m c xs := ⟨hh, hX.out.kept hKd.out⟩
 replace hS0 := Lib.hid hS0
 clear hM hK hX hh
 refine wp_region_held_drew (S := fun wz => Has w.heap.size cs 68 wz ∧ Ws wz ap m c xs) (by kernel_rfl) ?_ (fun hHeld => ?_)
 · exact hS0.out
 refine tk 0 _ (v := ?_) hHeld ?_ (tk 1 _ (v := ?_) hHeld ?_ ?_)
 all_goals try (intro wz hSw; (try dsimp only at hSw); go_simp; with_reducible rfl)
 try simp only [Act.put, pq]
 refine tk 2 _ (v := ?_) hHeld ?_ ?_
 rotate_left
 · (intro wz hSw; refine exec_load_has 68 (Operand.tmp 17) ?_ _ ?_ hSw.1 Tryz.underlying68 rfl (by rw [hcs]; kernel_rfl) <;> rfl)
 try simp only [Act.put, pq]
 refine tk 3 _ (v := ?_) hHeld ?_ ?_
 rotate_left
 · (intro wz hSw; (try dsimp only at hSw); go_simp; try with_reducible rfl)
 try simp only [Act.put, pq]
 refine wpAnyH_ready (rs := [4]) (by kernel_rfl) (by simp) ?_
 refine AllReadyH.cons (o := _) rfl (fun K hK => ?_) (AllReadyH.nil)
 go_simp
 go_at_call 36
 refine (clone_any hHeld.2 (by omega)).mono ?_
 rintro e wd ⟨A', c', rfl, p1, p2, p3⟩
 have hN := (show (fun wz => Has w.heap.size cs 68 wz ∧ Ws wz ap m c xs) _ from ⟨(p2.block _ hHeld.1.lt id).trans hHeld.1, hHeld.2.to fun ad e hn => p2.block _ (by subst e; exact hHeld.2.lt hn) id⟩)
 clear hHeld
 refine hK.out _ _ hN (fun hHeld => ?_)
 clear hK K hN
 try simp only [Act.put, pq]
 refine tk 5 _ (v := ?_) hHeld ?_ ?_
 rotate_left
 · (intro wz hSw; refine exec_build (o := ⟨some 21, .build 70 #[(0, .tmp 18), (1, .tmp 20)], 70, "machine.go:38", #[eD 2, eD 4], none⟩) 70 _ rfl (X.lay (X.lay X.z68 0 cs) 4097 #[.slice A' m c']) ?_; (go_simp; exact X.built68 cs hcs (.slice A' m c') rfl))
 try simp only [Act.put, pq]
 refine tk 6 _ (v := ?_) hHeld ?_ ?_
 rotate_left
 · (intro wz hSw; refine exec_build (o := ⟨some 22, .build 72 #[(0, .tmp 21), (3, .const (.int .i64 0))], 72, "machine.go:38", #[eD 5], none⟩) 72 _ rfl (X.lay (X.lay X.z70 0 (X.lay (X.lay X.z68 0 cs) 4097 #[.slice A' m c'])) 4121 #[.int .i64 0]) ?_; (go_simp; exact X.built70 (X.lay (X.lay X.z68 0 cs) 4097 #[.slice A' m c']) (by rw [X.lay_size, X.lay_size, X.z68_size])))
 try simp only [Act.put, pq]
 refine wpAnyH_ready (rs := [7]) (by kernel_rfl) (by simp) ?_
 refine AllReadyH.cons (o := _) rfl (fun K hK => ?_) (AllReadyH.nil)
 go_simp
 have hBox := Has.new (X.lay (X.lay X.z70 0 (X.lay (X.lay X.z68 0 cs) 4097 #[.slice A' m c'])) 4121 #[.int .i64 0]) 72 wd
 have hKb := (Kept.refl wd).alloc (X.lay (X.lay X.z70 0 (X.lay (X.lay X.z68 0 cs) 4097 #[.slice A' m c'])) 4121 #[.int .i64 0]) 72
 generalize wd.alloc _ = we at *
 have hN := (show (fun wz => Has w.heap.size cs 68 wz ∧ Ws wz ap m c xs) _ from ⟨hHeld.1.kept hKb, hHeld.2.kept hKb⟩)
 clear hHeld
 refine hK.out _ _ hN (fun hHeld => ?_)
 clear hK K hN
 try simp only [Act.put, pq]
 refine tk 8 _ (v := ?_) hHeld ?_ (tk 9 _ (v := ?_) hHeld ?_ ?_)
 all_goals try (intro wz hSw; (try dsimp only at hSw); go_simp; with_reducible rfl)
 try simp only [Act.put, pq]
 refine wpAnyH_done (by kernel_rfl) ?_ _
 have hT : Turn T0 w we := ((hKd.out.turn T0).trans p2).trans (hKb.turn T0)
 have hle : w.heap.size ≤ wd.heap.size := Nat.le_trans hKd.out.size p2.size
 have hlt : wd.heap.size < we.heap.size := hBox.lt
 have hMM := MemT.machine (w := we) hl hrng hcs hc3 hc4 hBox
 have hW := p1.kept hKb
 have hMac : Mac (fun k => w.heap.size ≤ k ∧ k < we.heap.size) wd.heap.size ⟨List.replicate n 0, A.none', 0, 0, xs, []⟩ we := ⟨A', m, c', none, 0, 0, fun k hk => hk.2, ⟨hle, hlt⟩, hMM, hW, fun ad e _ => ⟨⟨Nat.le_trans hKd.out.size (p3 ad e).1, by have := (p3 ad e).2; omega⟩, by have := (p3 ad e).2; omega, fun bd e' => by cases e'⟩, World.ownsRow_nil we 0 _ _, (fun ad e => by cases e), A.ok_none, by simp, by simp, by simp⟩
 replace hMac := Lib.hid hMac
 replace hT := Lib.hid hT
 clear p1 p2 p3 hMM hW hBox hKb hHeld
 go_wp2
 go_ret2
 exact ⟨_, rfl, _, hMac.out, hT.out, fun k hk => hk.1⟩
def shapeArr (P : Program) (t : TypeId) : Option (Array Value × Nat) :=
 match P.info? t, P.underlying t with
 | some it, some (.array _ e) =>
   match it.zero, P.info? e with
   | some z, some ie => some (z.cells, ie.size)
   | _, _ => none
 | _, _ => none
theorem built_arr {P : Program} {t : TypeId} {z : Array Value} {n : Nat} (h : shapeArr P t = some (z, n)) (parts : List (Nat × Value)) :
 P.built t parts = Instr.fill (fun i => some (i * n, n)) z parts := by
 unfold shapeArr at h
 unfold Program.built
 cases h1 : P.info? t with
 | none => simp [h1] at h
 | some it =>
   cases h2 : P.underlying t with
   | none => simp [h1, h2] at h
   | some d =>
     cases d <;> simp only [h1, h2] at h ⊢ <;> try (cases h; done)
     split at h
     · rename_i z' p' e1 e2
       simp only [Option.some.injEq, Prod.mk.injEq] at h
       obtain ⟨rfl, rfl⟩ := h
       simp only [e1, e2]
     · cases h
def Lo.rg (x y : Int) : A.Regs := A.set (A.set A.none' 13 x) 14 y
def Lo.regs (b m : Int) : A.Regs := Lo.rg (b % 4294967296) (4 * m % 4294967296)
def Lo.row (x y : Int) : Array Value := #[.int .u32 0, .int .u32 0, .int .u32 0, .int .u32 0, .int .u32 0, .int .u32 0, .int .u32 0, .int .u32 0, .int .u32 0, .int .u32 0, .int .u32 0, .int .u32 0, .int .u32 0, .int .u32 x, .int .u32 y, .int .u32 0]
theorem Lo.builtR (x y : Int) : Tryz.prog.built 46 [(13, .int .u32 x), (14, .int .u32 y)] = some (Lo.row x y) := by
 rw [built_arr (show shapeArr Tryz.prog 46 = some (Lo.row 0 0, 1) by kernel_rfl)]
 rfl
def Lo.all (x y : Int) : Array Value := #[.int .u32 0, .int .u32 0, .int .u32 0, .int .u32 0, .int .u32 0, .int .u32 0, .int .u32 0, .int .u32 0, .int .u32 0, .int .u32 0, .int .u32 0, .int .u32 0, .int .u32 0, .int .u32 x, .int .u32 y, .int .u32 0, .int .u32 0, .bool false, .bool false, .bool false, .bool false]
theorem Lo.all_eq (x y : Int) : Lo.all x y = A.cells (Lo.rg x y) := by kernel_rfl
theorem Lo.zero_eq : Lo.all 0 0 = A.cells A.none' := by kernel_rfl
theorem Lo.builtS (x y : Int) : Tryz.prog.built 48 [(0, .agg (Lo.row x y))] = some (A.cells (Lo.rg x y)) := by
 rw [built_of (show shapeOf Tryz.prog 48 = some (Lo.all 0 0, [(0, 16), (16, 1), (17, 1), (18, 1), (19, 1), (20, 1)]) by kernel_rfl), ← Lo.all_eq]
 kernel_rfl
theorem Lo.ok_none : A.Ok A.none' := ⟨fun j _ => by simp [A.none'], by simp [A.none'], by simp [A.none']⟩
theorem Lo.ok_set (s : A.Regs) (j : Nat) (x : Int) (hs : A.Ok s) (h0 : 0 ≤ x) (h1 : x < 4294967296) : A.Ok (A.set s j x) :=
 ⟨fun k hk => by
  show 0 ≤ (if k = j then x else s.r k) ∧ (if k = j then x else s.r k) < 4294967296
  split
  · exact ⟨h0, h1⟩
  · exact hs.1 k hk, hs.2.1, hs.2.2⟩
theorem Lo.ok_rg {x y : Int} (x0 : 0 ≤ x) (x1 : x < 4294967296) (y0 : 0 ≤ y) (y1 : y < 4294967296) : A.Ok (Lo.rg x y) := Lo.ok_set _ _ _ (Lo.ok_set _ _ _ Lo.ok_none x0 x1) y0 y1
theorem Lo.ok_regs (b m : Int) : A.Ok (Lo.regs b m) := Lo.ok_rg (by omega) (by omega) (by omega) (by omega)
theorem Lo.wrap_mod (m : Int) : wrap64 (4 * m) % 4294967296 = 4 * m % 4294967296 := by
 unfold wrap64
 omega
set_option maxRecDepth 100000 in
theorem Lo.regs_at (b m X Y : Int) (hX : b % 4294967296 = X) (hY : wrap64 (4 * m) % 4294967296 = Y) (w : World) :
 Calls Tryz.prog 17 #[.int .i64 b, .int .i64 m] w fun e w' => e = .returned (.agg (A.cells (Lo.rg X Y))) ∧ Kept w w' := by
 go_enter Tryz.func17, Tryz.ntmps17
 go_upto_region 1 with (fail)
 have hZ := Has.new (Lo.all 0 0) 48 w
 have hK := (Kept.refl w).alloc (Lo.all 0 0) 48
 change Code.wp _ _ _ _ (w.alloc (.cells (Lo.all 0 0) 48))
 rw [Lo.zero_eq] at hZ hK ⊢
 generalize w.alloc (.cells (A.cells A.none') 48) = w1 at *
 replace hZ := Lib.hid hZ
 replace hK := Lib.hid hK
 go_wp2_with (first
  | ((with_reducible refine build_has (o := ⟨some 10, _, _, _, _, _⟩) rfl 46 _ rfl (Lo.row X Y) ?hf4 ?_); (case hf4 => (go_simp; exact Lo.builtR _ _)))
  | ((with_reducible refine build_has (o := ⟨some 11, _, _, _, _, _⟩) rfl 48 _ rfl (A.cells (Lo.rg X Y)) ?hf5 ?_); (case hf5 => (go_simp; exact Lo.builtS _ _)))
  | (with_reducible refine store_has (o := ⟨none, _, _, _, _, _⟩) rfl 48 _ _ rfl _ _ rfl rfl hZ.out (A.info25 _) (by kernel_rfl) (A.one_cells _) ?_)
  | fail)
 exact bodyPost_ret (results_has rfl w.heap.size rfl (hZ.out.row _) Tryz.underlying48 rfl (A.info25 _)) rfl ⟨rfl, hK.out.row (Nat.le_refl _) _⟩
theorem Lo.regs_any (b m : Int) (w : World) :
 Calls Tryz.prog 17 #[.int .i64 b, .int .i64 m] w fun e w' => e = .returned (.agg (A.cells (Lo.regs b m))) ∧ Kept w w' :=
 Lo.regs_at b m _ _ rfl (Lo.wrap_mod m) w
theorem Lo.builtZ : Tryz.prog.built 48 [] = some (A.cells A.none') := by
 rw [built_of (show shapeOf Tryz.prog 48 = some (Lo.all 0 0, [(0, 16), (16, 1), (17, 1), (18, 1), (19, 1), (20, 1)]) by kernel_rfl), ← Lo.zero_eq]
 rfl
theorem Lo.exec_regs0 {o : Oper} {a : Act} {w : World} (ho : o.op = .build 48 #[]) : (execOp a.eval o).run Tryz.prog w = .ok (.value (.agg (A.cells A.none'))) w := by
 refine exec_build 48 #[] ho _ ?_
 rw [Array.map_empty]
 exact Lo.builtZ
theorem Lo.set_13 (x : Int) : (A.cells A.none').setIfInBounds 13 (.int .u32 x) = A.cells (A.set A.none' 13 x) := A.set_r _ 13 (by omega) x
theorem Lo.set_14 (x y : Int) : (A.cells (A.set A.none' 13 x)).setIfInBounds 14 (.int .u32 y) = A.cells (Lo.rg x y) := A.set_r _ 14 (by omega) y
set_option maxRecDepth 100000 in
theorem Lo.rregs_at (b m X Y : Int) (hX : b % 4294967296 = X) (hY : wrap64 (4 * m) % 4294967296 = Y) (w : World) :
 Calls Tryz.prog 27 #[.int .i64 b, .int .i64 m] w fun e w' => e = .returned (.agg (A.cells (Lo.rg X Y))) ∧ Kept w w' := by
 go_enter Tryz.func27, Tryz.ntmps27
 go_upto_region 1 with (fail)
 have hZ := Has.new (Lo.all 0 0) 48 w
 have hK := (Kept.refl w).alloc (Lo.all 0 0) 48
 change Code.wp _ _ _ _ (w.alloc (.cells (Lo.all 0 0) 48))
 rw [Lo.zero_eq] at hZ hK ⊢
 generalize w.alloc (.cells (A.cells A.none') 48) = w1 at *
 have hlt := hZ.lt
 replace hZ := Lib.hid hZ
 replace hK := Lib.hid hK
 go_upto_region 2 with (first
  | (with_reducible refine want_do (o := ⟨some 6, _, _, _, _, _⟩) rfl (Lo.exec_regs0 rfl) ?_)
  | (with_reducible refine store_last (o := ⟨none, Op.store 48 (.tmp 5) _, _, _, _, _⟩) rfl 48 _ _ rfl _ _ rfl rfl rfl (A.info25 _) (by kernel_rfl) (A.one_cells _) ?_)
  | fail)
 have hS := Has.new (A.cells A.none') 48 w1
 have hA := (Kept.refl w1).alloc (A.cells A.none') 48
 replace hZ := Lib.hid (hZ.out.kept hA)
 replace hK := Lib.hid (hK.out.trans hA)
 have hG : w.heap.size < w1.heap.size := hlt
 clear hA hlt
 generalize w1.alloc (.cells (A.cells A.none') 48) = w2 at *
 generalize w1.heap.size = G at *
 have c1 := hS.cell 13 (.int .u32 0) rfl
 have f1 := hS.free 13
 have hS2 := hS.set 13 (.int .u32 X)
 rw [Lo.set_13] at hS2
 have hZ2 := Lib.hid (hZ.out.other (p := ⟨G, 13, none⟩) (by show w.heap.size ≠ G; omega) (.int .u32 X))
 have hK2 := Lib.hid (hK.out.setCell (p := ⟨G, 13, none⟩) (by show w.heap.size ≤ G; omega) (.int .u32 X))
 replace hS2 := Lib.hid hS2
 clear hS hZ hK
 go_upto_region 3 with (fail)
 generalize w2.setCell ⟨G, 13, none⟩ (.int .u32 X) = w3 at *
 clear c1 f1
 have c1 := hS2.out.cell 14 (.int .u32 0) rfl
 have f1 := hS2.out.free 14
 have hS3 := hS2.out.set 14 (.int .u32 Y)
 rw [Lo.set_14] at hS3
 have hZ3 := Lib.hid (hZ2.out.other (p := ⟨G, 14, none⟩) (by show w.heap.size ≠ G; omega) (.int .u32 Y))
 have hK3 := Lib.hid (hK2.out.setCell (p := ⟨G, 14, none⟩) (by show w.heap.size ≤ G; omega) (.int .u32 Y))
 replace hS3 := Lib.hid hS3
 clear hS2 hZ2 hK2
 go_upto_region 4 with (fail)
 generalize w3.setCell ⟨G, 14, none⟩ (.int .u32 Y) = w4 at *
 clear c1 f1
 go_wp2_with (first
  | (with_reducible refine load_has rfl 48 _ rfl _ rfl hS3.out Tryz.underlying48 rfl (A.info25 _) ?_)
  | (with_reducible refine store_has (o := ⟨none, _, _, _, _, _⟩) rfl 48 _ _ rfl _ _ rfl rfl hZ3.out (A.info25 _) (by kernel_rfl) (A.one_cells _) ?_)
  | fail)
 exact bodyPost_ret (results_has rfl w.heap.size rfl (hZ3.out.row _) Tryz.underlying48 rfl (A.info25 _)) rfl ⟨rfl, hK3.out.row (Nat.le_refl _) _⟩
theorem Lo.rregs_any (b m : Int) (w : World) :
 Calls Tryz.prog 27 #[.int .i64 b, .int .i64 m] w fun e w' => e = .returned (.agg (A.cells (Lo.regs b m))) ∧ Kept w w' :=
 Lo.rregs_at b m _ _ rfl (Lo.wrap_mod m) w
theorem A.part_u (xs : Array Value) (j : Nat) (x : Int) (w : World) (hj : xs[j]? = some (.int .u32 x)) : (part 43 xs j).run Tryz.prog w = .ok (.int .u32 x) w := by
 have ha := run_isAgg Tryz.underlying43 w
 simp [part, Sem.run_bind, run_sizeOf (P := Tryz.prog) (e := 43) (m := 1) (by kernel_rfl), ha, TypeDesc.isRow, hj]
theorem A.part_b (xs : Array Value) (j : Nat) (x : Bool) (w : World) (hj : xs[j]? = some (.bool x)) : (part 4 xs j).run Tryz.prog w = .ok (.bool x) w := by
 have ha := run_isAgg Tryz.underlying4 w
 simp [part, Sem.run_bind, run_sizeOf (P := Tryz.prog) (e := 4) (m := 1) (by kernel_rfl), ha, TypeDesc.isRow, hj]
theorem A.part_R (s : A.Regs) (w : World) : (part 46 (A.cells s) 0).run Tryz.prog w = .ok (.agg ((A.cells s).extract 0 16)) w := by
 have ha := run_isAgg Tryz.underlying46 w
 simp [part, Sem.run_bind, run_sizeOf (P := Tryz.prog) (e := 46) (m := 16) (by kernel_rfl), ha, TypeDesc.isRow]
theorem A.items (d : Nat) (xs : Array Value) (w : World) : ∀ is : List Nat, (∀ i ∈ is, ∃ x, xs[i]? = some (.int .u32 x)) → (Op.eqItems (d + 1) 43 1 xs xs is).run Tryz.prog w = .ok true w
 | [], _ => by simp [Op.eqItems]
 | i :: is, h => by
   obtain ⟨x, hx⟩ := h i (by simp)
   have hp := A.part_u xs (i * 1) x w (by simpa using hx)
   have := A.items d xs w is (fun j hj => h j (by simp [hj]))
   simp only [Op.eqItems, Sem.run_bind, hp, Result.andThen_ok, run_equalIn_int w d 43 .u32 .u32 x x Tryz.underlying43]
   simpa using this
theorem A.eq_R (d : Nat) (s : A.Regs) (w : World) : (Op.equalIn (d + 2) 46 (.agg ((A.cells s).extract 0 16)) (.agg ((A.cells s).extract 0 16))).run Tryz.prog w = .ok true w := by
 obtain ⟨i, hi⟩ : ∃ i, Tryz.prog.info? 43 = some i := Option.isSome_iff_exists.1 (show (Tryz.prog.info? 43).isSome = true by kernel_rfl)
 rw [run_equalIn_array w (d + 1) _ _ Tryz.underlying46 hi, show Tryz.prog.cellsOf 43 = 1 by kernel_rfl]
 refine A.items d _ w _ fun j hj => ?_
 have hj' : j < 16 := by simpa using hj
 exact ⟨s.r j, by rw [Array.getElem?_extract]; simp [hj', A.cell_r s j hj']⟩
theorem A.eq_u (d : Nat) (x : Int) (w : World) : (Op.equalIn (d + 2) 43 (.int .u32 x) (.int .u32 x)).run Tryz.prog w = .ok true w := by
 rw [run_equalIn_int w (d + 1) 43 .u32 .u32 x x Tryz.underlying43]; simp
theorem A.eq_b (d : Nat) (x : Bool) (w : World) : (Op.equalIn (d + 2) 4 (.bool x) (.bool x)).run Tryz.prog w = .ok true w := by
 rw [run_equalIn_bool' w (d + 1) 4 x x Tryz.underlying4]; simp
theorem A.eq_regsD (d : Nat) (s : A.Regs) (w : World) : (Op.equalIn (d + 3) 48 (.agg (A.cells s)) (.agg (A.cells s))).run Tryz.prog w = .ok true w := by
 rw [run_equalIn_struct w (d + 2) 48 _ _ Tryz.underlying48 (by kernel_rfl)]
 simp only [Program.fieldsOf, Tryz.underlying48]
 simp only [Op.eqFields]
 rw [if_pos (by decide), if_pos (by decide), if_pos (by decide), if_pos (by decide), if_pos (by decide), if_pos (by decide)]
 simp only [Sem.run_bind, A.part_R, A.eq_R, A.part_u (A.cells s) 16 s.h _ rfl, A.part_b (A.cells s) 17 s.n _ rfl, A.part_b (A.cells s) 18 s.z _ rfl, A.part_b (A.cells s) 19 s.c _ rfl, A.part_b (A.cells s) 20 s.v _ rfl, A.eq_u, A.eq_b, Result.andThen_ok, Bool.not_true, Bool.false_eq_true, if_false, Sem.run_pure]
theorem A.depth : Op.maxDepth = 9997 + 3 := rfl
theorem A.eq_regs (s : A.Regs) (w : World) : (Op.equal 48 (.agg (A.cells s)) (.agg (A.cells s))).run Tryz.prog w = .ok true w := by
 unfold Op.equal
 rw [A.depth]
 exact A.eq_regsD 9997 s w
section
variable {P : Program} {ops : Array Oper} {rest : List Oper} {o : Oper} {a : Act} {w : World} {Q : Exit → Act → World → Prop}
end
def Live (w0 : World) (B : Nat) (x : X.St) (w : World) : Prop := ∃ F, Mac F B x w ∧ (∀ k, F k → w0.heap.size ≤ k) ∧ Below w0.heap.size w0 w
theorem Live.below {w0 : World} {B : Nat} {x : X.St} {w : World} (h : Live w0 B x w) : Below w0.heap.size w0 w := by obtain ⟨F, h1, h2, h3⟩ := h; exact h3
theorem Live.turn0 {w0 : World} {B : Nat} {x : X.St} {w w' : World} (h : Live w0 B x w) (hT : Turn T0 w w') : Live w0 B x w' := by
 obtain ⟨F, h1, h2, h3⟩ := h
 exact ⟨F, h1.turn hT fun _ _ h => h, h2, h3.trans (hT.below w0.heap.size h3.size fun _ h => h.elim)⟩
theorem Live.kept {w0 : World} {B : Nat} {x : X.St} {w w' : World} (h : Live w0 B x w) (hK : Kept w w') : Live w0 B x w' := h.turn0 (hK.turn T0)
theorem Live.to {w0 : World} {B : Nat} {x' : X.St} {F F' : Nat → Prop} {w w' : World} (hF : ∀ k, F k → w0.heap.size ≤ k) (hb : Below w0.heap.size w0 w) (hM : Mac F' B x' w') (hT : Turn F w w') (hF' : ∀ k, F' k → F k ∨ w.heap.size ≤ k) : Live w0 B x' w' :=
 ⟨F', hM, fun k hk => by
  rcases hF' k hk with h1 | h1
  · exact hF k h1
  · exact Nat.le_trans hb.size h1, hb.trans (hT.below w0.heap.size hb.size hF)⟩
theorem Live.toB {w0 : World} {B : Nat} {x' : X.St} {F : Nat → Prop} {w w' : World} (hF : ∀ k, F k → w0.heap.size ≤ k) (hb : Below w0.heap.size w0 w) (hM : Mac F B x' w') (hB : But B w w') : Live w0 B x' w' :=
 Live.to hF hb hM (hB.turn hM.inB) fun k hk => Or.inl hk
theorem new_live {w : World} (n : Nat) (hn : n ≤ 4096) {ap : Option Addr} {m c : Nat} {xs : List Int} (hx : Ws w ap m c xs) (hm : m ≤ 1000000000) :
 Calls Tryz.prog 20 #[.int .i64 n, .slice ap m c] w fun e w' => ∃ B, e = .returned (.tuple #[.pointer (some ⟨B, 0, none⟩), .int .i64 0]) ∧ Live w B ⟨List.replicate n 0, A.none', 0, 0, xs, []⟩ w' := by
 refine (new_any n hn hx hm).mono ?_
 rintro e w' ⟨B, he, F, h1, h2, h3⟩
 exact ⟨B, he, F, h1, h3, h2.kept0⟩
theorem place_live {w0 : World} {B : Nat} {x : X.St} {w : World} (h : Live w0 B x w) (k : Nat) (ap : Option Addr) (n c : Nat) (xs : List Int) (hx : Ws w ap n c xs) (hf : k + n ≤ x.ws.length) :
 Calls Tryz.prog 21 #[.pointer (some ⟨B, 0, none⟩), .int .i64 k, .slice ap n c] w fun e w' => e = .returned (.int .i64 0) ∧ Live w0 B ⟨M.placed x.ws k xs, x.s, x.pc, x.st, x.ins, x.outs⟩ w' := by
 obtain ⟨F, h1, h2, h3⟩ := h
 refine (place_any h1 k ap n c xs hx hf).mono ?_
 rintro e w' ⟨he, p1, p2⟩
 exact ⟨he, Live.toB h2 h3 p1 p2⟩
theorem start_live {w0 : World} {B : Nat} {x : X.St} {w : World} (h : Live w0 B x w) (pc : Int) (s : A.Regs) (ok : A.Ok s) (p0 : 0 ≤ pc) (p1 : pc < 4294967296) :
 Calls Tryz.prog 22 #[.pointer (some ⟨B, 0, none⟩), .int .u32 pc, .agg (A.cells s)] w fun e w' => e = .returned (.tuple #[]) ∧ Live w0 B ⟨x.ws, s, pc, 0, x.ins, x.outs⟩ w' := by
 obtain ⟨F, h1, h2, h3⟩ := h
 refine (start_any h1 pc s ok p0 p1).mono ?_
 rintro e w' ⟨he, q1, q2⟩
 exact ⟨he, Live.toB h2 h3 q1 q2⟩
namespace X
end X
theorem A.field_R (s : A.Regs) (W : World) : (Instr.field 48 (.agg (A.cells s)) 0).run Tryz.prog W = .ok (.agg ((A.cells s).extract 0 16)) W := by
 have h := A.part_R s W
 simp only [Instr.field, Sem.run_bind, run_underlying Tryz.underlying48, Result.andThen_ok, asAgg, Sem.run_pure]
 exact h
theorem A.index_R (s : A.Regs) (j : Nat) (hj : j < 16) (W : World) : (Instr.index 46 (.agg ((A.cells s).extract 0 16)) (.int .i64 j)).run Tryz.prog W = .ok (.int .u32 (s.r j)) W :=
 run_index_cell Tryz.underlying46 (by omega) (by omega) Tryz.underlying43 rfl (by kernel_rfl) (by
  rw [Array.getElem?_extract]
  have := A.cell_r s j hj
  simp [hj, this]) W
structure RMem (D C : Nat) (ws : List Int) (w : World) : Prop where
 len : ws.length ≤ 4096
 rng : ∀ x ∈ ws, 0 ≤ x ∧ x < 4294967296
 ne : D ≠ C
 box : Has D #[.slice (some ⟨C, 0, none⟩) (4 * ws.length) (4 * ws.length)] 84 w
 has : ∃ cs : Array Value, Has C cs 5 w ∧ cs.size = 4 * ws.length ∧ ∀ (i : Nat) (x : Int), ws[i]? = some x → ∀ j, j < 4 → cs[4 * i + j]? = some (Value.int .u8 (x / 2 ^ (8 * j) % 256))
theorem RMem.below {D C : Nat} {ws : List Int} {w w' : World} (h : RMem D C ws w) (hK : Below w.heap.size w w') : RMem D C ws w' := by
 obtain ⟨cs, h1, h2⟩ := h.has; exact ⟨h.len, h.rng, h.ne, h.box.below hK, cs, h1.below hK, h2⟩
theorem RMem.but {D C B : Nat} {ws : List Int} {w w' : World} (h : RMem D C ws w) (hK : But B w w') (h1 : D ≠ B) (h2 : C ≠ B) : RMem D C ws w' := by
 obtain ⟨cs, h3, h4⟩ := h.has; exact ⟨h.len, h.rng, h.ne, hK.has h1 h.box, cs, hK.has h2 h3, h4⟩
theorem RMem.kept {D C : Nat} {ws : List Int} {w w' : World} (h : RMem D C ws w) (hK : Kept w w') : RMem D C ws w' := h.below hK.below
theorem RMem.sl {D C : Nat} {ws : List Int} {w : World} (h : RMem D C ws w) : w.cell? ⟨D, 0, none⟩ = some (.slice (some ⟨C, 0, none⟩) (4 * ws.length) (4 * ws.length)) := h.box.cell 0 _ rfl
theorem RMem.byte {D C : Nat} {ws : List Int} {w : World} (h : RMem D C ws w) (i : Nat) (hi : i < ws.length) (j : Nat) (hj : j < 4) : w.cell? ⟨C, 4 * i + j, none⟩ = some (.int .u8 (ws[i] / 2 ^ (8 * j) % 256)) := by
 obtain ⟨cs, h3, h4, h5⟩ := h.has
 exact h3.cell _ _ (h5 i _ (List.getElem?_eq_getElem hi) j hj)
theorem RMem.free {D C : Nat} {ws : List Int} {w : World} (h : RMem D C ws w) (j : Nat) : w.frozen? ⟨C, j, none⟩ = false := by
 obtain ⟨cs, h3, h4⟩ := h.has; exact h3.free j
theorem RMem.lt {D C : Nat} {ws : List Int} {w : World} (h : RMem D C ws w) : D < w.heap.size ∧ C < w.heap.size := by
 obtain ⟨cs, h3, h4⟩ := h.has; exact ⟨h.box.lt, h3.lt⟩
theorem made_atM (z : Value) (n j : Nat) (hj : j < n) : (madeCells #[z] n)[j]? = some z := by
 unfold madeCells
 simp [hj, Nat.mod_one]
theorem RMem.new (n : Nat) (hn : n ≤ 4096) (w : World) : RMem (w.heap.size + 1) w.heap.size (List.replicate n 0) ((w.alloc (.cells (madeCells #[Value.int .u8 0] (4 * n)) 5)).alloc (.cells #[.slice (some ⟨w.heap.size, 0, none⟩) (4 * n) (4 * n)] 84)) := by
 refine ⟨by simpa using hn, fun x hx => ?_, by omega, ?_, _, (Has.new _ _ _).alloc _, by simp [size_madeCells], fun i x hi j hj => ?_⟩
 · rw [List.eq_of_mem_replicate hx]; omega
 · rw [List.length_replicate]; exact Has.new1 _ _ _ _
 · rw [List.getElem?_replicate] at hi
   split at hi
   · cases hi
     rw [made_atM _ _ _ (by omega), Int.zero_ediv]; rfl
   · cases hi
theorem M.info8 : (Tryz.prog.info? 5).map (fun i => (i.zero, i.size, i.bytes)) = some (some (.int .u8 0), 1, 1) := by kernel_rfl
theorem R.shape : shapeOf Tryz.prog 84 = some (#[.slice none 0 0], [(0, 1)]) := by kernel_rfl
theorem R.built (v : Value) (hv : v.cells = #[v]) : Tryz.prog.built 84 [(0, v)] = some #[v] := by
 rw [built_of R.shape]
 have := fill_one (place := fun x => ([(0, 1)] : List (Nat × Nat)).toArray[x]?) (z := #[.slice none 0 0]) (i := 0) (off := 0) rfl hv (by decide)
 exact this
theorem make_row2 {P : Program} {w : World} {ops : Array Oper} {rest : List Oper} {o : Oper} {a : Act} {Q : Exit → Act → World → Prop} (hgd : o.guard = none) (l c : Operand) (t : TypeId) (ho : o.op = .makeSlice t l c)
 (e : TypeId) {z : Value} {b : Nat} (h1 : P.underlying t = some (.slice e)) (hi : (P.info? e).map (fun i => (i.zero, i.size, i.bytes)) = some (some z, 1, b)) (n : Nat) (L : Int) (hl : a.eval l = .int .i64 L) (hc : a.eval c = .int .i64 L) (hL : L = n)
 (b2 : b * n ≤ 281474976710656) (b3 : n ≤ maxLen)
 (h : wpList P ops Q rest (a.put o.dst (.slice (some ⟨w.heap.size, 0, none⟩) n n)) (w.alloc (.cells (madeCells z.cells n) e))) : wpList P ops Q (o :: rest) a w := by
 subst hL
 exact make_row hgd l c t ho e h1 hi n hl hc b2 b3 h
theorem R.new_any (n : Nat) (hn : n ≤ 4096) (w : World) :
 Calls Tryz.prog 42 #[.int .i64 n] w fun e w' => e = .returned (.tuple #[.pointer (some ⟨w.heap.size + 1, 0, none⟩), .int .i64 0]) ∧ RMem (w.heap.size + 1) w.heap.size (List.replicate n 0) w' ∧ Kept w w' ∧ w'.heap.size = w.heap.size + 2 := by
 have h0 : (0 : Int) ≤ n := by omega
 have h1 : (n : Int) ≤ 4096 := by omega
 go_enter Tryz.func42, Tryz.ntmps42
 go_wp2_with (first
  | (with_reducible refine make_row2 rfl (.tmp 11) (.tmp 11) 23 rfl 5 Tryz.underlying23 M.info8 (4 * n) _ rfl rfl (by omega) (by omega) (by unfold maxLen; omega) ?_)
  | ((with_reducible refine build_has (o := ⟨some 13, _, _, _, _, _⟩) rfl 84 _ rfl #[.slice (some ⟨w.heap.size, 0, none⟩) (4 * n) (4 * n)] ?hf4 ?_); (case hf4 => (go_simp; exact R.built _ rfl))))
 go_ret2
 exact ⟨rfl, RMem.new n hn w, ((Kept.refl w).alloc _ _).alloc _ _, by simp⟩
theorem R.trap_any {D C : Nat} {ws : List Int} {w : World} (h : RMem D C ws w) (a : Int) (h0 : 0 ≤ a) (h1 : a < 4294967296) (b : Bool) :
 Calls Tryz.prog 47 #[.pointer (some ⟨D, 0, none⟩), .int .u32 a, .bool b] w fun e w' => e = .returned (.int .i64 (if b then M.wt ws a else M.bt ws a)) ∧ w = w' := by
 have hc := h.sl
 have hl := h.len
 have hl0 : (ws.length : Int) ≤ 4096 := by omega
 clear h
 have hb : M.bt ws a = if ((4 * ws.length : Nat) : Int) ≤ a then 3 else 0 := by
  unfold M.bt
  by_cases c : ((4 * ws.length : Nat) : Int) ≤ a
  · rw [if_pos c, if_pos (by omega)]
  · rw [if_neg c, if_neg (by omega)]
 unfold M.wt
 rw [hb]
 clear hb
 generalize hN : 4 * ws.length = N at *
 have hN1 : (N : Int) ≤ 16384 := by omega
 clear hN hl hl0
 by_cases c1 : (N : Int) ≤ a <;> by_cases c2 : a % 4 = 0 <;> cases b
 all_goals
  simp only [c1, c2, if_true, if_false, Bool.false_eq_true]
  go_enter Tryz.func47, Tryz.ntmps47
  go_wp2
  go_ret
  exact ⟨rfl, rfl⟩
theorem R.sum (x : Int) (h0 : 0 ≤ x) (h1 : x < 4294967296) : x / 2 ^ (8 * 0) % 256 + x / 2 ^ (8 * 1) % 256 * 256 + x / 2 ^ (8 * 2) % 256 * 65536 + x / 2 ^ (8 * 3) % 256 * 16777216 = x := by
 show x / 1 % 256 + x / 256 % 256 * 256 + x / 65536 % 256 * 65536 + x / 16777216 % 256 * 16777216 = x
 omega
theorem R.wraps (b0 b1 b2 b3 : Int) (r0 : 0 ≤ b0 ∧ b0 < 256) (r1 : 0 ≤ b1 ∧ b1 < 256) (r2 : 0 ≤ b2 ∧ b2 < 256) (r3 : 0 ≤ b3 ∧ b3 < 256) :
 IntKind.u32.wrap (IntKind.u32.wrap (IntKind.u32.wrap (IntKind.u32.wrap b0 + IntKind.u32.wrap (IntKind.u32.wrap b1 * 256)) + IntKind.u32.wrap (IntKind.u32.wrap b2 * 65536)) + IntKind.u32.wrap (IntKind.u32.wrap b3 * 16777216)) = b0 + b1 * 256 + b2 * 65536 + b3 * 16777216 := by
 simp only [IntKind.wrap_u32]
 omega
set_option maxRecDepth 100000 in
theorem R.get_any {D C : Nat} {ws : List Int} {w : World} (h : RMem D C ws w) (n : Nat) (hn : n < ws.length) :
 Calls Tryz.prog 35 #[.pointer (some ⟨D, 0, none⟩), .int .i64 n] w fun e w' => e = .returned (.int .u32 ws[n]) ∧ Kept w w' := by
 have hc := h.sl
 have hl := h.len
 have hr := h.rng _ (List.getElem_mem hn)
 have g0 := h.byte n hn 0 (by omega)
 have g1 := h.byte n hn 1 (by omega)
 have g2 := h.byte n hn 2 (by omega)
 have g3 := h.byte n hn 3 (by omega)
 have hs := R.sum ws[n] hr.1 hr.2
 have r0 : 0 ≤ ws[n] / 2 ^ (8 * 0) % 256 ∧ ws[n] / 2 ^ (8 * 0) % 256 < 256 := by omega
 have r1 : 0 ≤ ws[n] / 2 ^ (8 * 1) % 256 ∧ ws[n] / 2 ^ (8 * 1) % 256 < 256 := by omega
 have r2 : 0 ≤ ws[n] / 2 ^ (8 * 2) % 256 ∧ ws[n] / 2 ^ (8 * 2) % 256 < 256 := by omega
 have r3 : 0 ≤ ws[n] / 2 ^ (8 * 3) % 256 ∧ ws[n] / 2 ^ (8 * 3) % 256 < 256 := by omega
 generalize ws[n] / 2 ^ (8 * 0) % 256 = b0 at *
 generalize ws[n] / 2 ^ (8 * 1) % 256 = b1 at *
 generalize ws[n] / 2 ^ (8 * 2) % 256 = b2 at *
 generalize ws[n] / 2 ^ (8 * 3) % 256 = b3 at *
 generalize ws[n] = x at *
 generalize hN : ws.length = N at *
 rw [Nat.add_zero] at g0
 have hn0 : (n : Int) < N := by omega
 have hN0 : (N : Int) ≤ 4096 := by omega
 replace hs := Lib.hid hs
 clear h hN hr
 go_enter Tryz.func35, Tryz.ntmps35
 go_wp2
 rw [show 4 * n + 4 - 4 * n = 4 by omega]
 refine WS.start 22 (by kernel_rfl) (by kernel_rfl) ?_
 intro w2 hw2
 have hK := Lib.hid (show Kept w w2 by rw [hw2]; exact (Kept.refl w).drew)
 replace g0 := (show w2.cell? ⟨C, 4 * n, none⟩ = w.cell? ⟨C, 4 * n, none⟩ by rw [hw2]; rfl).trans g0
 replace g1 := (show w2.cell? ⟨C, 4 * n + 1, none⟩ = w.cell? ⟨C, 4 * n + 1, none⟩ by rw [hw2]; rfl).trans g1
 replace g2 := (show w2.cell? ⟨C, 4 * n + 2, none⟩ = w.cell? ⟨C, 4 * n + 2, none⟩ by rw [hw2]; rfl).trans g2
 replace g3 := (show w2.cell? ⟨C, 4 * n + 3, none⟩ = w.cell? ⟨C, 4 * n + 3, none⟩ by rw [hw2]; rfl).trans g3
 clear hw2 hc
 simp only [List.take_succ_cons, List.take_zero, List.drop_succ_cons, List.drop_zero]
 iterate 22 (refine WS.step rfl (fun K hK => ?_); go_simp; refine hK _ ?_; clear hK K)
 refine WS.nil ?_
 go_wp2
 go_ret
 refine ⟨?_, hK.out⟩
 rw [R.wraps b0 b1 b2 b3 r0 r1 r2 r3, hs.out]
 rfl
def R.Part (C n k : Nat) (x : Int) (cs0 : Array Value) (w : World) : Prop :=
 ∃ cs : Array Value, Has C cs 5 w ∧ cs.size = cs0.size ∧ (∀ j, j < k → cs[4 * n + j]? = some (Value.int .u8 (x / 2 ^ (8 * j) % 256))) ∧ ∀ p, p < 4 * n ∨ 4 * n + k ≤ p → cs[p]? = cs0[p]?
theorem R.part_step {C n k : Nat} {x : Int} {cs0 : Array Value} {w : World} (h : R.Part C n k x cs0 w) (hn : 4 * n + k < cs0.size) : R.Part C n (k + 1) x cs0 (w.setCell ⟨C, 4 * n + k, none⟩ (.int .u8 (x / 2 ^ (8 * k) % 256))) := by
 obtain ⟨cs, h1, h2, h3, h4⟩ := h
 refine ⟨_, h1.set _ _, by simpa using h2, fun j hj => ?_, fun p hp => ?_⟩
 · by_cases c : j = k
   · subst c
     rw [Array.getElem?_setIfInBounds_self_of_lt (by omega)]
   · rw [Array.getElem?_setIfInBounds_ne (by omega)]
     exact h3 j (by omega)
 · rw [Array.getElem?_setIfInBounds_ne (by omega)]
   exact h4 p (by omega)
theorem R.part_cell {C n k : Nat} {x : Int} {cs0 : Array Value} {w : World} (h : R.Part C n k x cs0 w) (hn : 4 * n + k < cs0.size) : ∃ v, w.cell? ⟨C, 4 * n + k, none⟩ = some v := by
 obtain ⟨cs, h1, h2, h3, h4⟩ := h
 exact ⟨_, h1.cell _ _ (Array.getElem?_eq_getElem (by omega))⟩
theorem R.part_free {C n k : Nat} {x : Int} {cs0 : Array Value} {w : World} (h : R.Part C n k x cs0 w) (j : Nat) : w.frozen? ⟨C, j, none⟩ = false := by
 obtain ⟨cs, h1, _⟩ := h
 exact h1.free j
theorem R.part_end {D C n : Nat} {ws : List Int} {x : Int} {w w' : World} {cs0 : Array Value} (h : RMem D C ws w) (hn : n < ws.length) (x0 : 0 ≤ x) (x1 : x < 4294967296) (hs : cs0.size = 4 * ws.length)
 (h5 : ∀ (i : Nat) (x : Int), ws[i]? = some x → ∀ j, j < 4 → cs0[4 * i + j]? = some (Value.int .u8 (x / 2 ^ (8 * j) % 256))) (hP : R.Part C n 4 x cs0 w') (hB : But C w w') : RMem D C (ws.set n x) w' := by
 obtain ⟨cs, h1, h2, h3, h4⟩ := hP
 refine ⟨by simpa using h.len, fun y hy => ?_, h.ne, ?_, cs, h1, by rw [List.length_set]; omega, fun i y hi j hj => ?_⟩
 · rcases mem_set hy with hy | rfl
   · exact h.rng y hy
   · exact ⟨x0, x1⟩
 · rw [List.length_set]; exact hB.has h.ne h.box
 · rw [List.getElem?_set] at hi
   by_cases c : n = i
   · subst c
     rw [if_pos rfl, if_pos hn] at hi
     cases hi
     exact h3 j hj
   · rw [if_neg c] at hi
     rw [h4 _ (by omega)]
     exact h5 i y hi j hj
theorem R.shift (x : Int) (k : Nat) : x / 2 ^ (8 * k) / 256 = x / 2 ^ (8 * (k + 1)) := by
 rw [Int.ediv_ediv_of_nonneg (Int.le_of_lt (Int.pow_pos (by decide))), show (256 : Int) = 2 ^ 8 from rfl, ← Int.pow_add, show 8 * k + 8 = 8 * (k + 1) by omega]
theorem R.bounds (x : Int) (k : Nat) (x0 : 0 ≤ x) (x1 : x < 4294967296) : 0 ≤ x / 2 ^ (8 * k) ∧ x / 2 ^ (8 * k) < 4294967296 := by
 have p : (0 : Int) < 2 ^ (8 * k) := Int.pow_pos (by decide)
 refine ⟨Int.ediv_nonneg x0 (Int.le_of_lt p), ?_⟩
 exact Int.lt_of_le_of_lt (Int.ediv_le_self _ x0) x1
set_option maxRecDepth 100000 in
theorem R.set_any {D C : Nat} {ws : List Int} {w : World} (h : RMem D C ws w) (n : Nat) (hn : n < ws.length) (x : Int) (x0 : 0 ≤ x) (x1 : x < 4294967296) :
 Calls Tryz.prog 43 #[.pointer (some ⟨D, 0, none⟩), .int .i64 n, .int .u32 x] w fun e w' => e = .returned (.tuple #[]) ∧ RMem D C (ws.set n x) w' ∧ But C w w' := by
 have hl := h.len
 have hc := h.sl
 have hD := h.lt.1
 have hne := h.ne
 obtain ⟨cs0, hh, hs, h5⟩ := h.has
 have hE := Lib.hid (fun (w' : World) (hP : R.Part C n 4 x cs0 w') (hB : But C w w') => R.part_end h hn x0 x1 hs h5 hP hB)
 have hP0 := Lib.hid (show R.Part C n 0 x cs0 w from ⟨cs0, hh, rfl, fun j hj => by omega, fun _ _ => rfl⟩)
 replace hc := Lib.hid hc
 generalize hN : ws.length = N at *
 have hn0 : (n : Int) < N := by omega
 have hN0 : (N : Int) ≤ 4096 := by omega
 clear h hN hh h5
 go_enter Tryz.func43, Tryz.ntmps43
 go_wp2
 go_loopw [2, 6] (fun xv i wr => ∃ k : Nat, k ≤ 4 ∧ i = .int .i64 k ∧ xv = .int .u32 (x / 2 ^ (8 * k)) ∧ But C w wr ∧ R.Part C n k x cs0 wr) (fun _ i _ => 4 - (intOf i).toNat)
 case atStart => exact ⟨0, by omega, rfl, by rw [Nat.mul_zero, Int.pow_zero, Int.ediv_one], But.refl _ _, hP0.out⟩
 case round =>
  obtain ⟨k, hk, rfl, rfl, hB, hP⟩ := hrel
  have hr := R.bounds x k x0 x1
  by_cases d1 : k < 4
  · have d2 : (k : Int) < 4 := by omega
    have g1 := (World.cell?_of_block (w := w) (hB.block D hD hne) : wr.cell? ⟨D, 0, none⟩ = w.cell? ⟨D, 0, none⟩).trans hc.out
    obtain ⟨v, hv⟩ := R.part_cell hP (by omega)
    have hf := R.part_free hP (4 * n + k)
    have hS := Lib.hid (R.part_step hP (by omega))
    have hB2 := Lib.hid (hB.setCell (4 * n + k) (.int .u8 (x / 2 ^ (8 * k) % 256)))
    have hx := R.shift x k
    clear hP hB
    go_wp2
    go_roundw
    case rel => exact ⟨k + 1, by omega, by go_num, by rw [hx], hB2.out, hS.out⟩
    case measure => simp [intOf]; omega
  · have d2 : ¬ (k : Int) < 4 := by omega
    obtain rfl : k = 4 := by omega
    have hR := Lib.hid (hE.out _ hP hB)
    replace hB := Lib.hid hB
    clear hP
    go_wp2
    go_end0
    exact ⟨rfl, hR.out, hB.out⟩
theorem R.word_any {D C : Nat} {ws : List Int} {w : World} (h : RMem D C ws w) (a : Int) (h0 : 0 ≤ a) (h1 : a < 4294967296) :
 Calls Tryz.prog 29 #[.pointer (some ⟨D, 0, none⟩), .int .u32 a] w fun e w' => e = .returned (.tuple #[.int .u32 (M.word ws a), .int .i64 (M.wt ws a)]) ∧ Kept w w' := by
 have T := R.trap_any h a h0 h1 true
 simp only [if_true] at T
 unfold M.word
 by_cases c : M.wt ws a = 0
 · rw [if_pos c]
   have c3 := M.bt_zero h0 (M.wt_zero c).2
   rw [show ws.getD (a / 4).toNat 0 = ws[(a / 4).toNat] by simp [c3]]
   have G := R.get_any h (a / 4).toNat c3
   rw [show (((a / 4).toNat : Nat) : Int) = a / 4 by omega] at G
   rw [c] at T ⊢
   generalize ws[(a / 4).toNat] = x at *
   clear h c c3
   go_enter Tryz.func29, Tryz.ntmps29
   go_wp2_with (first
    | (go_at_call 47; refine T.mono ?_; rintro e w' ⟨rfl, rfl⟩)
    | (go_at_call 35; refine G.mono ?_; rintro e w2 ⟨rfl, hK⟩))
   go_ret2
   exact ⟨rfl, hK⟩
 · rw [if_neg c]
   generalize M.wt ws a = t at *
   clear h
   go_enter Tryz.func29, Tryz.ntmps29
   go_wp2_with (go_at_call 47; refine T.mono ?_; rintro e w' ⟨rfl, rfl⟩)
   go_ret2
   exact ⟨rfl, Kept.refl _⟩
theorem R.byte_any {D C : Nat} {ws : List Int} {w : World} (h : RMem D C ws w) (a : Int) (h0 : 0 ≤ a) (h1 : a < 4294967296) :
 Calls Tryz.prog 51 #[.pointer (some ⟨D, 0, none⟩), .int .u32 a] w fun e w' => e = .returned (.tuple #[.int .u8 (M.byte ws a), .int .i64 (M.bt ws a)]) ∧ w = w' := by
 have T := R.trap_any h a h0 h1 false
 simp only [Bool.false_eq_true, if_false] at T
 unfold M.byte
 by_cases c : M.bt ws a = 0
 · rw [if_pos c]
   have c3 := M.bt_zero h0 c
   rw [show ws.getD (a / 4).toNat 0 = ws[(a / 4).toNat] by simp [c3]]
   have g := h.byte _ c3 (a % 4).toNat (by omega)
   rw [show 4 * (a / 4).toNat + (a % 4).toNat = a.toNat by omega, show 8 * (a % 4).toNat = (8 * (a % 4)).toNat by omega] at g
   have hs := h.sl
   have hl := h.len
   have hlt : a < 4 * (ws.length : Int) := by omega
   rw [c] at T ⊢
   generalize ws[(a / 4).toNat] / 2 ^ (8 * (a % 4)).toNat % 256 = x at *
   generalize ws.length = N at *
   clear h c c3
   go_enter Tryz.func51, Tryz.ntmps51
   go_wp2_with (go_at_call 47; refine T.mono ?_; rintro e w' ⟨rfl, rfl⟩)
   go_ret2
   exact ⟨rfl, rfl⟩
 · rw [if_neg c]
   generalize M.bt ws a = t at *
   clear h
   go_enter Tryz.func51, Tryz.ntmps51
   go_wp2_with (go_at_call 47; refine T.mono ?_; rintro e w' ⟨rfl, rfl⟩)
   go_ret2
   exact ⟨rfl, rfl⟩
theorem R.setW_any {D C : Nat} {ws : List Int} {w : World} (h : RMem D C ws w) (a x : Int) (h0 : 0 ≤ a) (h1 : a < 4294967296) (x0 : 0 ≤ x) (x1 : x < 4294967296) :
 Calls Tryz.prog 53 #[.pointer (some ⟨D, 0, none⟩), .int .u32 a, .int .u32 x] w fun e w' => e = .returned (.int .i64 (M.wt ws a)) ∧ RMem D C (M.setW ws a x) w' ∧ But C w w' := by
 have T := R.trap_any h a h0 h1 true
 simp only [if_true] at T
 unfold M.setW
 by_cases c : M.wt ws a = 0
 · rw [if_pos c]
   have c3 := M.bt_zero h0 (M.wt_zero c).2
   have G := R.set_any h (a / 4).toNat c3 x x0 x1
   rw [show (((a / 4).toNat : Nat) : Int) = a / 4 by omega] at G
   rw [c] at T ⊢
   clear h c c3
   go_enter Tryz.func53, Tryz.ntmps53
   go_wp2_with (first
    | (go_at_call 47; refine T.mono ?_; rintro e w' ⟨rfl, rfl⟩)
    | (go_at_call 43; refine G.mono ?_; rintro e w2 ⟨rfl, hR, hB⟩))
   go_ret
   exact ⟨rfl, hR, hB⟩
 · rw [if_neg c]
   have R := Lib.hid h
   have c1 : (M.wt ws a == 0) = false := by simpa using c
   generalize M.wt ws a = t at *
   clear h
   go_enter Tryz.func53, Tryz.ntmps53
   go_wp2_with (go_at_call 47; refine T.mono ?_; rintro e w' ⟨rfl, rfl⟩)
   go_ret
   exact ⟨rfl, R.out, But.refl _ _⟩
theorem RMem.setByte {D C : Nat} {ws : List Int} {w : World} (h : RMem D C ws w) (a x : Int) (h0 : 0 ≤ a) (hj : (a / 4).toNat < ws.length) (x0 : 0 ≤ x) (x1 : x < 256) :
 RMem D C (ws.set (a / 4).toNat (M.mix ws[(a / 4).toNat] a x)) (w.setCell ⟨C, a.toNat, none⟩ (.int .u8 x)) := by
 obtain ⟨cs, h3, h4, h5⟩ := h.has
 have hr := h.rng _ (List.getElem_mem hj)
 have hm := M.mix_range ws[(a / 4).toNat] a x h0 x0 x1 hr.1 hr.2
 refine ⟨by simpa using h.len, fun y hy => ?_, h.ne, ?_, _, h3.set _ _, by rw [List.length_set]; simpa using h4, fun i y hi j hj4 => ?_⟩
 · rcases mem_set hy with hy | rfl
   · exact h.rng y hy
   · exact hm
 · rw [List.length_set]; exact h.box.other h.ne _
 · rw [List.getElem?_set] at hi
   by_cases c : (a / 4).toNat = i
   · subst c
     rw [if_pos rfl, if_pos hj] at hi
     cases hi
     rw [M.mix_byte _ _ _ _ hj4 h0 x0 x1 hr.1 hr.2]
     by_cases c2 : a % 4 = j
     · rw [if_pos c2, show 4 * (a / 4).toNat + j = a.toNat by omega, Array.getElem?_setIfInBounds_self_of_lt (by omega)]
     · rw [if_neg c2, Array.getElem?_setIfInBounds_ne (by omega)]
       exact h5 _ _ (List.getElem?_eq_getElem hj) j hj4
   · rw [if_neg c] at hi
     rw [Array.getElem?_setIfInBounds_ne (by omega)]
     exact h5 i y hi j hj4
theorem R.setB_any {D C : Nat} {ws : List Int} {w : World} (h : RMem D C ws w) (a x : Int) (h0 : 0 ≤ a) (h1 : a < 4294967296) (x0 : 0 ≤ x) (x1 : x < 256) :
 Calls Tryz.prog 52 #[.pointer (some ⟨D, 0, none⟩), .int .u32 a, .int .u8 x] w fun e w' => e = .returned (.int .i64 (M.bt ws a)) ∧ RMem D C (M.setB ws a x) w' ∧ But C w w' := by
 have T := R.trap_any h a h0 h1 false
 simp only [Bool.false_eq_true, if_false] at T
 unfold M.setB
 by_cases c : M.bt ws a = 0
 · rw [if_pos c]
   have c3 := M.bt_zero h0 c
   rw [show ws.getD (a / 4).toNat 0 = ws[(a / 4).toNat] by simp [c3]]
   have G := Lib.hid (h.setByte a x h0 c3 x0 x1)
   have g := h.byte _ c3 (a % 4).toNat (by omega)
   rw [show 4 * (a / 4).toNat + (a % 4).toNat = a.toNat by omega] at g
   have hf := h.free a.toNat
   have hs := h.sl
   have hl := h.len
   have hlt : a < 4 * (ws.length : Int) := by omega
   rw [c] at T ⊢
   generalize ws[(a / 4).toNat] / 2 ^ (8 * (a % 4).toNat) % 256 = y at *
   generalize M.mix ws[(a / 4).toNat] a x = z at *
   generalize ws.length = N at *
   clear h c c3
   go_enter Tryz.func52, Tryz.ntmps52
   go_wp2_with (go_at_call 47; refine T.mono ?_; rintro e w' ⟨rfl, rfl⟩)
   go_ret
   exact ⟨rfl, G.out, (But.refl _ _).setCell _ _⟩
 · rw [if_neg c]
   have R := Lib.hid h
   have c1 : (M.bt ws a == 0) = false := by simpa using c
   generalize M.bt ws a = t at *
   clear h
   go_enter Tryz.func52, Tryz.ntmps52
   go_wp2_with (go_at_call 47; refine T.mono ?_; rintro e w' ⟨rfl, rfl⟩)
   go_ret
   exact ⟨rfl, R.out, But.refl _ _⟩
theorem R.place_no {D C : Nat} {ws : List Int} {w : World} (h : RMem D C ws w) (k : Int) (A : Option Addr) (n c : Nat) (hn : n ≤ maxLen) (k0 : -9223372036854775808 ≤ k) (k1 : k ≤ 9223372036854775807) (hf : k < 0 ∨ (ws.length : Int) < k + n) :
 Calls Tryz.prog 25 #[.pointer (some ⟨D, 0, none⟩), .int .i64 k, .slice A n c] w fun e w' => e = .returned (.int .i64 11) ∧ w = w' := by
 have hc := h.sl
 have hl := h.len
 unfold maxLen at hn
 have hn1 : (n : Int) ≤ 9223372036854775807 := by omega
 clear h
 generalize ws.length = N at *
 rcases Int.lt_or_le k 0 with h | h
 · go_enter Tryz.func25, Tryz.ntmps25
   go_wp2
   go_ret
   exact ⟨rfl, rfl⟩
 · have h2 : ¬ k < 0 := by omega
   have h3 : decide (k < 0) = false := decide_eq_false h2
   rcases Int.lt_or_le (N : Int) k with h4 | h4
   · clear hf
     go_enter Tryz.func25, Tryz.ntmps25
     go_wp2
     go_ret
     exact ⟨rfl, rfl⟩
   · have h1 : (N : Int) - k < n := by omega
     have h5 : decide ((N : Int) < k) = false := decide_eq_false (by omega)
     clear hf
     go_enter Tryz.func25, Tryz.ntmps25
     go_wp2
     go_ret
     exact ⟨rfl, rfl⟩
theorem M.placed_none (ws : List Int) (k : Nat) : M.placed ws k [] = ws := by unfold M.placed; simp
theorem M.placed_step (ws xs : List Int) (k j : Nat) (x : Int) (hk : k + xs.length ≤ ws.length) (hx : xs[j]? = some x) : (M.placed ws k (xs.take j)).set (k + j) x = M.placed ws k (xs.take (j + 1)) := by
 have hj : j < xs.length := by
  rcases Nat.lt_or_ge j xs.length with h1 | h1
  · exact h1
  · rw [List.getElem?_eq_none h1] at hx; cases hx
 have t1 : (xs.take j).length = j := by simp; omega
 have t2 : (xs.take (j + 1)).length = j + 1 := by simp; omega
 apply List.ext_getElem?
 intro i
 rw [List.getElem?_set]
 by_cases c1 : k + j = i
 · subst c1
   rw [if_pos rfl, if_pos (by rw [M.placed_len _ _ _ (by omega)]; omega), M.placed_in _ _ _ _ (by omega) (by omega) (by omega), List.getElem?_take, if_pos (by omega), show k + j - k = j by omega, hx]
 · rw [if_neg c1]
   by_cases c2 : k ≤ i ∧ i < k + j
   · rw [M.placed_in _ _ _ _ (by omega) c2.1 (by omega), M.placed_in _ _ _ _ (by omega) c2.1 (by omega), List.getElem?_take, List.getElem?_take, if_pos (by omega), if_pos (by omega)]
   · rw [M.placed_out _ _ _ _ (by omega) (by omega), M.placed_out _ _ _ _ (by omega) (by omega)]
set_option maxRecDepth 100000 in
theorem R.place_loop {D C : Nat} {ws : List Int} {w : World} (h : RMem D C ws w) (k : Nat) (b off n c : Nat) (xs : List Int) (hx : Ws w (some ⟨b, off, none⟩) n c xs) (hn : 0 < n) (hb : b ≠ C) (hf : k + n ≤ ws.length) :
 Calls Tryz.prog 25 #[.pointer (some ⟨D, 0, none⟩), .int .i64 k, .slice (some ⟨b, off, none⟩) n c] w fun e w' => e = .returned (.int .i64 0) ∧ RMem D C (M.placed ws k xs) w' ∧ But C w w' := by
 have hc := h.sl
 have hl := h.len
 have hxl := hx.len
 have hX := Lib.hid hx
 have hR := Lib.hid h
 have h2 : ¬ (k : Int) < 0 := by omega
 have h3 : decide ((k : Int) < 0) = false := decide_eq_false h2
 have hl' : (M.placed ws k xs).length = ws.length := by unfold M.placed; simp; omega
 generalize hN : ws.length = N at *
 have h4 : decide ((N : Int) < k) = false := decide_eq_false (by omega)
 have h5 : (n : Int) ≤ (N : Int) - k := by omega
 have h6 : ¬ (N : Int) < k := by omega
 have h7 : (k : Int) ≤ N := by omega
 clear h hx
 go_enter Tryz.func25, Tryz.ntmps25
 go_wp2
 go_loopw [8] (fun i wr => ∃ j : Nat, j ≤ n ∧ i = .int .i64 j ∧ RMem D C (M.placed ws k (xs.take j)) wr ∧ But C w wr) (fun i _ => n - (intOf i).toNat)
 case atStart => exact ⟨0, Nat.zero_le _, rfl, by rw [List.take_zero, M.placed_none]; exact hR.out, But.refl _ _⟩
 case round =>
  obtain ⟨j, hj, rfl, hRr, hB⟩ := hrel
  by_cases d1 : j < n
  · have d2 : (j : Int) < n := by omega
    obtain ⟨x, hxj⟩ : ∃ x, xs[j]? = some x := ⟨_, List.getElem?_eq_getElem (by omega)⟩
    have hr := hX.out.rng x (List.mem_of_getElem? hxj)
    have g1 := (hX.out.but hB (fun ad e _ => by cases e; exact hb)).cellAt j x hxj
    have hlen : k + j < (M.placed ws k (xs.take j)).length := by unfold M.placed; simp; omega
    have G := R.set_any hRr (k + j) hlen x hr.1 hr.2
    rw [M.placed_step ws xs k j x (by omega) hxj, show (((k + j : Nat)) : Int) = (k : Int) + j by omega] at G
    replace hB := Lib.hid hB
    clear hRr hxj hr hlen
    go_wp2_with (go_at_call 43; refine G.mono ?_; rintro e w2 ⟨rfl, hR2, hB2⟩)
    go_roundw
    case rel => exact ⟨j + 1, by omega, by go_num, hR2, hB.out.trans hB2⟩
    case measure => simp [intOf]; omega
  · have d2 : ¬ (j : Int) < n := by omega
    rw [List.take_of_length_le (by omega)] at hRr
    replace hRr := Lib.hid hRr
    replace hB := Lib.hid hB
    go_wp2
    go_ret
    exact ⟨rfl, hRr.out, hB.out⟩
set_option maxRecDepth 100000 in
theorem R.place_none {D C : Nat} {ws : List Int} {w : World} (h : RMem D C ws w) (k : Nat) (A : Option Addr) (c : Nat) (hf : k ≤ ws.length) :
 Calls Tryz.prog 25 #[.pointer (some ⟨D, 0, none⟩), .int .i64 k, .slice A 0 c] w fun e w' => e = .returned (.int .i64 0) ∧ RMem D C ws w' ∧ But C w w' := by
 have hc := h.sl
 have hl := h.len
 have hR := Lib.hid h
 have h2 : ¬ (k : Int) < 0 := by omega
 have h3 : decide ((k : Int) < 0) = false := decide_eq_false h2
 generalize hN : ws.length = N at *
 have h4 : decide ((N : Int) < k) = false := decide_eq_false (by omega)
 have h5 : (0 : Int) ≤ (N : Int) - k := by omega
 have h6 : ¬ (N : Int) < k := by omega
 have h7 : (k : Int) ≤ N := by omega
 clear h
 go_enter Tryz.func25, Tryz.ntmps25
 go_wp2
 go_loopw [8] (fun i wr => i = .int .i64 0 ∧ wr = w) (fun _ _ => 0)
 case atStart => exact ⟨rfl, rfl⟩
 case round =>
  obtain ⟨rfl, rfl⟩ := hrel
  go_wp2
  go_ret
  exact ⟨rfl, hR.out, But.refl _ _⟩
theorem R.place_yes {D C : Nat} {ws : List Int} {w : World} (h : RMem D C ws w) (k : Nat) (A : Option Addr) (n c : Nat) (xs : List Int) (hx : Ws w A n c xs) (hb : ∀ ad, A = some ad → 0 < n → ad.block ≠ C) (hf : k + n ≤ ws.length) :
 Calls Tryz.prog 25 #[.pointer (some ⟨D, 0, none⟩), .int .i64 k, .slice A n c] w fun e w' => e = .returned (.int .i64 0) ∧ RMem D C (M.placed ws k xs) w' ∧ But C w w' := by
 rcases Nat.eq_zero_or_pos n with rfl | hn
 · have e1 : xs = [] := List.eq_nil_of_length_eq_zero hx.len
   subst e1
   rw [M.placed_none]
   exact R.place_none h k A c (by omega)
 · cases A with
   | none => have := hx.nil rfl; have := hx.le; omega
   | some ad =>
     obtain ⟨b, off, rfl⟩ := hx.addr hn
     exact R.place_loop h k b off n c xs hx hn (hb _ rfl hn) hf
theorem Own.to {base g n cap : Nat} {xs : List Int} {w w' : World} (h : Own base g n cap xs w) (hb : w'.heap[g]? = w.heap[g]?) : Own base g n cap xs w' := by
 obtain ⟨h1, h2⟩ := h
 refine ⟨h1, ?_⟩
 rcases h2 with ⟨h2, _⟩ | ⟨g', cap', cur, hv, h3, hh, h4⟩
 · cases h2
 · cases hv
   exact Or.inr ⟨g, cap, cur, rfl, h3, hb.trans hh, h4⟩
theorem Own.lt {base g n cap : Nat} {xs : List Int} {w : World} (h : Own base g n cap xs w) : base ≤ g ∧ g < w.heap.size := by
 obtain ⟨h1, _, _, _, cur, hh, _⟩ := h.has
 exact ⟨h1, hh.lt⟩
set_option maxRecDepth 100000 in
theorem R.words_any {D C : Nat} {ws : List Int} {w : World} (h : RMem D C ws w) :
 Calls Tryz.prog 14 #[.pointer (some ⟨D, 0, none⟩)] w fun e w' => ∃ g cap, e = .returned (.slice (some ⟨g, 0, none⟩) ws.length cap) ∧ Ws w' (some ⟨g, 0, none⟩) ws.length cap ws ∧ Below w.heap.size w w' := by
 have hl := h.len
 have hR := Lib.hid h
 generalize hN : ws.length = N at *
 clear h
 go_enter Tryz.func14, Tryz.ntmps14
 go_wp2
 go_loopw [3, 4] (fun v i wr => ∃ k g cap : Nat, k ≤ N ∧ i = .int .i64 k ∧ v = .slice (some ⟨g, 0, none⟩) k cap ∧ Own w.heap.size g k cap (ws.take k) wr ∧ Below w.heap.size w wr) (fun _ i _ => N - (intOf i).toNat)
 case atStart => exact ⟨0, w.heap.size, 0, Nat.zero_le _, rfl, rfl, Own.new w _ (Nat.le_refl _), (Below.refl _ _).alloc (Nat.le_refl _) _⟩
 case round =>
  obtain ⟨k, g, cap, hk, rfl, rfl, hO, hb⟩ := hrel
  have hRr := hR.out.below hb
  have g1 := hRr.sl
  rw [hN] at g1
  have hN0 : (N : Int) ≤ 4096 := by omega
  by_cases d1 : k < N
  · have d2 : (k : Int) < N := by omega
    have G := R.get_any hRr k (by omega)
    have hr := hRr.rng _ (List.getElem_mem (show k < ws.length by omega))
    have ht : ws.take k ++ [ws[k]] = ws.take (k + 1) := by rw [List.take_add_one, List.getElem?_eq_getElem (by omega)]; rfl
    generalize ws[k] = x at *
    have hOl := hO.lt
    replace hO := Lib.hid hO
    replace hb := Lib.hid hb
    clear hRr
    go_wp2_with (fail)
    refine G.mono ?_; rintro e w2 ⟨rfl, hK2⟩
    have hN2 : w.heap.size ≤ w2.heap.size := Nat.le_trans hb.out.size hK2.size
    have hA := (Kept.refl w2).alloc #[Value.int .u32 x] 43
    have hY := Lib.hid (Ws.one (Has.new #[Value.int .u32 x] 43 w2) hr.1 hr.2)
    have hO2 := Lib.hid (hO.out.to (w' := w2.alloc (.cells #[Value.int .u32 x] 43)) ((hK2.trans hA).below.block g hOl.2))
    have hb2 := Lib.hid (below_kept hb.out (hK2.trans hA) (by have := hb.out.size; omega))
    have hN3 : w.heap.size ≤ (w2.alloc (.cells #[Value.int .u32 x] 43)).heap.size := hb2.out.size
    replace hN3 := Lib.hid hN3
    clear hO hb hK2 hA G
    go_wp2_with (with_reducible refine append_words (o := ⟨some 21, _, _, _, _, _⟩) rfl (.tmp 16) (.tmp 20) rfl w.heap.size g k cap (ws.take k) rfl hO2.out _ 1 1 [x] rfl hY.out (by omega) hN3.out ?_; intro g' cap' w3 hO3 hG3; rw [ht] at hO3; replace hO3 := Lib.hid hO3; replace hG3 := Lib.hid (hb2.out.grown hG3 hN3.out (fun k e => by cases e; exact hOl.1)))
    go_roundw
    case rel => exact ⟨k + 1, g', cap', by omega, by go_num, rfl, hO3.out, hG3.out⟩
    case measure => simp [intOf]; omega
  · have d2 : ¬ (k : Int) < N := by omega
    rw [List.take_of_length_le (by omega)] at hO
    obtain rfl : k = N := by omega
    have hW := Lib.hid (hO.ws hR.out.rng)
    replace hb := Lib.hid hb
    clear hO hRr
    go_wp2
    go_ret
    exact ⟨g, cap, rfl, hW.out, hb.out⟩
theorem RMem.to {D C : Nat} {ws : List Int} {w w' : World} (h : RMem D C ws w) (hD : w'.heap[D]? = w.heap[D]?) (hC : w'.heap[C]? = w.heap[C]?) : RMem D C ws w' := by
 obtain ⟨cs, h3, h4⟩ := h.has; exact ⟨h.len, h.rng, h.ne, hD.trans h.box, cs, hC.trans h3, h4⟩
def X.rc (D : Nat) (s : A.Regs) (pc st : Int) (si so : Value) : Array Value := #[.pointer (some ⟨D, 0, none⟩), .int .u32 (s.r 0), .int .u32 (s.r 1), .int .u32 (s.r 2), .int .u32 (s.r 3), .int .u32 (s.r 4), .int .u32 (s.r 5), .int .u32 (s.r 6), .int .u32 (s.r 7), .int .u32 (s.r 8), .int .u32 (s.r 9), .int .u32 (s.r 10), .int .u32 (s.r 11), .int .u32 (s.r 12), .int .u32 (s.r 13), .int .u32 (s.r 14), .int .u32 (s.r 15), .int .u32 s.h, .bool s.n, .bool s.z, .bool s.c, .bool s.v, .int .u32 pc, .int .i64 st, si, so]
theorem X.rc_size (D : Nat) (s : A.Regs) (pc st : Int) (si so : Value) : (X.rc D s pc st si so).size = 26 := rfl
structure RMacAt (F : Nat → Prop) (E : Nat) (x : X.St) (D C : Nat) (ai : Option Addr) (ni ci : Nat) (ao : Option Addr) (no co : Nat) (w : World) : Prop where
 sub : ∀ k, F k → k < w.heap.size
 inE : F E
 inD : F D
 inC : F C
 neD : E ≠ D
 neC : E ≠ C
 box : Has E (X.rc D x.s x.pc x.st (.slice ai ni ci) (.slice ao no co)) 50 w
 mem : RMem D C x.ws w
 ins : Ws w ai ni ci x.ins
 insF : ∀ ad, ai = some ad → 0 < ni → F ad.block ∧ ad.block ≠ E ∧ ad.block ≠ C ∧ ∀ bd, ao = some bd → ad.block ≠ bd.block
 out : X.Outs ao no co x.outs w
 outF : ∀ ad, ao = some ad → F ad.block ∧ ad.block ≠ E ∧ ad.block ≠ D ∧ ad.block ≠ C
 ok : A.Ok x.s
 pc0 : 0 ≤ x.pc
 pc1 : x.pc < 4294967296
 rng : ∀ y ∈ x.outs, 0 ≤ y ∧ y < 4294967296
def RMac (F : Nat → Prop) (E : Nat) (x : X.St) (w : World) : Prop := ∃ D C ai ni ci ao no co, RMacAt F E x D C ai ni ci ao no co w
theorem RMacAt.turn {F G : Nat → Prop} {E : Nat} {x : X.St} {D C : Nat} {ai : Option Addr} {ni ci : Nat} {ao : Option Addr} {no co : Nat} {w w' : World} (h : RMacAt F E x D C ai ni ci ao no co w) (hT : Turn G w w') (hd : ∀ k, F k → ¬ G k) : RMacAt F E x D C ai ni ci ao no co w' :=
 ⟨fun k hk => Nat.lt_of_lt_of_le (h.sub k hk) hT.size, h.inE, h.inD, h.inC, h.neD, h.neC, (hT.block E (h.sub E h.inE) (hd E h.inE)).trans h.box, h.mem.to (hT.block D (h.sub D h.inD) (hd D h.inD)) (hT.block C (h.sub C h.inC) (hd C h.inC)),
  h.ins.to fun ad e hn => hT.block _ (h.sub _ (h.insF ad e hn).1) (hd _ (h.insF ad e hn).1), h.insF, h.out.to fun ad e => hT.block _ (h.sub _ (h.outF ad e).1) (hd _ (h.outF ad e).1), h.outF, h.ok, h.pc0, h.pc1, h.rng⟩
theorem RMac.turn {F G : Nat → Prop} {E : Nat} {x : X.St} {w w' : World} (h : RMac F E x w) (hT : Turn G w w') (hd : ∀ k, F k → ¬ G k) : RMac F E x w' := by
 obtain ⟨D, C, ai, ni, ci, ao, no, co, h⟩ := h
 exact ⟨D, C, ai, ni, ci, ao, no, co, h.turn hT hd⟩
theorem RMacAt.kept {F : Nat → Prop} {E : Nat} {x : X.St} {D C : Nat} {ai : Option Addr} {ni ci : Nat} {ao : Option Addr} {no co : Nat} {w w' : World} (h : RMacAt F E x D C ai ni ci ao no co w) (hK : Kept w w') : RMacAt F E x D C ai ni ci ao no co w' := h.turn (hK.turn T0) fun _ _ h => h
theorem RMac.kept {F : Nat → Prop} {E : Nat} {x : X.St} {w w' : World} (h : RMac F E x w) (hK : Kept w w') : RMac F E x w' := h.turn (hK.turn T0) fun _ _ h => h
theorem RMac.sub {F : Nat → Prop} {E : Nat} {x : X.St} {w : World} (h : RMac F E x w) : ∀ k, F k → k < w.heap.size := by obtain ⟨_, _, _, _, _, _, _, _, h⟩ := h; exact h.sub
theorem RMacAt.own {F : Nat → Prop} {E : Nat} {x : X.St} {D C : Nat} {ai : Option Addr} {ni ci : Nat} {ao : Option Addr} {no co : Nat} {w w' : World} (h : RMacAt F E x D C ai ni ci ao no co w) (hB : But E w w') (s : A.Regs) (pc st : Int)
 (hm : Has E (X.rc D s pc st (.slice ai ni ci) (.slice ao no co)) 50 w') (ok : A.Ok s) (pc0 : 0 ≤ pc) (pc1 : pc < 4294967296) : RMacAt F E ⟨x.ws, s, pc, st, x.ins, x.outs⟩ D C ai ni ci ao no co w' :=
 ⟨fun k hk => Nat.lt_of_lt_of_le (h.sub k hk) hB.size, h.inE, h.inD, h.inC, h.neD, h.neC, hm, h.mem.but hB (Ne.symm h.neD) (Ne.symm h.neC), h.ins.but hB fun ad e hn => (h.insF ad e hn).2.1, h.insF,
  h.out.to fun ad e => hB.block _ (h.sub _ (h.outF ad e).1) (h.outF ad e).2.1, h.outF, ok, pc0, pc1, h.rng⟩
theorem RMacAt.words {F : Nat → Prop} {E : Nat} {x : X.St} {D C : Nat} {ai : Option Addr} {ni ci : Nat} {ao : Option Addr} {no co : Nat} {w w' : World} (h : RMacAt F E x D C ai ni ci ao no co w) (hB : But C w w') (ws : List Int) (hm : RMem D C ws w') : RMacAt F E ⟨ws, x.s, x.pc, x.st, x.ins, x.outs⟩ D C ai ni ci ao no co w' :=
 ⟨fun k hk => Nat.lt_of_lt_of_le (h.sub k hk) hB.size, h.inE, h.inD, h.inC, h.neD, h.neC, hB.has h.neC h.box, hm, h.ins.but hB fun ad e hn => (h.insF ad e hn).2.2.1, h.insF,
  h.out.to fun ad e => hB.block _ (h.sub _ (h.outF ad e).1) (h.outF ad e).2.2.2, h.outF, h.ok, h.pc0, h.pc1, h.rng⟩
theorem X.rshape : shapeOf Tryz.prog 50 = some (#[.pointer none, .int .u32 0, .int .u32 0, .int .u32 0, .int .u32 0, .int .u32 0, .int .u32 0, .int .u32 0, .int .u32 0, .int .u32 0, .int .u32 0, .int .u32 0, .int .u32 0, .int .u32 0, .int .u32 0, .int .u32 0, .int .u32 0, .int .u32 0, .bool false, .bool false, .bool false, .bool false, .int .u32 0, .int .i64 0, .slice none 0 0, .slice none 0 0], [(0, 1), (1, 21), (22, 1), (23, 1), (24, 1), (25, 1)]) := by kernel_rfl
theorem X.rbuilt (D : Nat) (ap : Option Addr) (n c : Nat) : Tryz.prog.built 50 [(0, .pointer (some ⟨D, 0, none⟩)), (4, .slice ap n c)] = some (X.rc D A.none' 0 0 (.slice ap n c) (.slice none 0 0)) := by
 rw [built_of X.rshape]; rfl
theorem rnew_any {w : World} (n : Nat) (hn : n ≤ 4096) {ap : Option Addr} {m c : Nat} {xs : List Int} (hx : Ws w ap m c xs) (hm : m ≤ 1000000000) :
 Calls Tryz.prog 24 #[.int .i64 n, .slice ap m c] w fun e w' => ∃ E, e = .returned (.tuple #[.pointer (some ⟨E, 0, none⟩), .int .i64 0]) ∧ ∃ F, RMac F E ⟨List.replicate n 0, A.none', 0, 0, xs, []⟩ w' ∧ Turn T0 w w' ∧ ∀ k, F k → w.heap.size ≤ k := by
 have C := Lib.hid (R.new_any n hn w)
 have hX := Lib.hid hx
 clear hx
 go_enter Tryz.func24, Tryz.ntmps24
 go_wp2_with (fail)
 refine C.out.mono ?_; rintro e w1 ⟨rfl, hM, hK, hsz⟩
 clear C
 replace hsz := Lib.hid hsz
 have hKa := (Kept.refl w1).alloc #[] 43
 have hO := Lib.hid (Own.new w1 w1.heap.size (Nat.le_refl _))
 have hY := Lib.hid (hX.out.kept (hK.trans hKa))
 have hr := hX.out.rng
 have hM2 := Lib.hid (hM.kept hKa)
 have hT := Lib.hid ((hK.trans hKa).turn T0)
 have hle : w1.heap.size ≤ (w1.alloc (.cells #[] 43)).heap.size := hKa.size
 replace hle := Lib.hid hle
 clear hM hK hKa hX
 go_wp2_with (first
  | (with_reducible refine append_words (o := ⟨some 19, _, _, _, _, _⟩) rfl (.tmp 17) (.tmp 18) rfl w1.heap.size w1.heap.size 0 0 [] rfl hO.out ap m c xs rfl hY.out (by omega) hle.out ?_; intro g' cap' w3 hO3 hG3)
  | ((with_reducible refine build_has (o := ⟨some 20, _, _, _, _, _⟩) rfl 50 _ rfl (X.rc (w.heap.size + 1) A.none' 0 0 (.slice (some ⟨g', 0, none⟩) (0 + m) cap') (.slice none 0 0)) ?hf4 ?_); (case hf4 => (go_simp; exact X.rbuilt _ _ _ _))))
 have hKb := (Kept.refl w3).alloc (X.rc (w.heap.size + 1) A.none' 0 0 (.slice (some ⟨g', 0, none⟩) m cap') (.slice none 0 0)) 50
 have hE := Has.new (X.rc (w.heap.size + 1) A.none' 0 0 (.slice (some ⟨g', 0, none⟩) m cap') (.slice none 0 0)) 50 w3
 generalize w3.alloc (Obj.cells _ _) = w4 at *
 rw [Nat.zero_add, List.nil_append] at hO3
 have hg := World.ownsRow.lt hO3 g' rfl
 have hs1 := hsz.out
 have hM3 : RMem (w.heap.size + 1) w.heap.size (List.replicate n 0) w3 := hM2.out.to (hG3.block _ hM2.out.lt.1 (by intro e; have := Option.some.inj e; omega)) (hG3.block _ hM2.out.lt.2 (by intro e; have := Option.some.inj e; omega))
 have hT3 : Turn T0 w w3 := ⟨hG3.os.trans hT.out.os, hG3.tape.trans hT.out.tape, hG3.output.trans hT.out.output, Nat.le_trans hT.out.size hG3.size, fun k hk hF => (hG3.block k (Nat.lt_of_lt_of_le hk hT.out.size) (by intro e; have := Option.some.inj e; omega)).trans (hT.out.block k hk hF)⟩
 have hlt3 := hM3.lt
 have hlt4 : w3.heap.size < w4.heap.size := hE.lt
 have hR : RMac (fun k => w.heap.size ≤ k ∧ k < w4.heap.size) w3.heap.size ⟨List.replicate n 0, A.none', 0, 0, xs, []⟩ w4 :=
  ⟨w.heap.size + 1, w.heap.size, some ⟨g', 0, none⟩, m, cap', none, 0, 0, fun k hk => hk.2, ⟨by omega, hlt4⟩, ⟨by omega, by omega⟩, ⟨Nat.le_refl _, by omega⟩, by omega, by omega, hE, hM3.kept hKb, (hO3.ws hr).kept hKb,
   (fun ad e _ => by cases e; exact ⟨⟨by show w.heap.size ≤ g'; omega, by show g' < w4.heap.size; omega⟩, by show g' ≠ w3.heap.size; omega, by show g' ≠ w.heap.size; omega, fun bd e' => by cases e'⟩), World.ownsRow_nil w4 0 _ _, (fun ad e => by cases e), A.ok_none, by simp, by simp, by simp⟩
 have hT4 := hT3.trans (hKb.turn T0)
 replace hR := Lib.hid hR
 replace hT4 := Lib.hid hT4
 clear hO3 hG3 hO hY hM2 hT hle hKb hE hM3 hT3
 go_ret2
 exact ⟨_, rfl, _, hR.out, hT4.out, fun k hk => hk.1⟩
def putA (cs : Array Value) (o : Nat) : List Value → Array Value
 | [] => cs
 | v :: r => putA (cs.setIfInBounds o v) (o + 1) r
theorem Has.setN {B : Nat} {t : TypeId} : ∀ (vs : List Value) (o : Nat) (cs : Array Value) (w : World), Has B cs t w → Has B (putA cs o vs) t (w.setCells B o vs)
 | [], _, _, _, h => h
 | v :: r, o, cs, w, h => by have := Has.setN r (o + 1) (cs.setIfInBounds o v) (w.setCell ⟨B, o, none⟩ v) (h.set o v); exact this
theorem X.rc_regs (D : Nat) (s s' : A.Regs) (pc st : Int) (si so : Value) : putA (X.rc D s pc st si so) 1 (A.cells s').toList = X.rc D s' pc st si so := by kernel_rfl
theorem X.rc_pc (D : Nat) (s : A.Regs) (pc st v : Int) (si so : Value) : (X.rc D s pc st si so).setIfInBounds 22 (.int .u32 v) = X.rc D s v st si so := rfl
theorem X.rc_st (D : Nat) (s : A.Regs) (pc st v : Int) (si so : Value) : (X.rc D s pc st si so).setIfInBounds 23 (.int .i64 v) = X.rc D s pc v si so := rfl
theorem X.rc_in (D : Nat) (s : A.Regs) (pc st : Int) (si so v : Value) : (X.rc D s pc st si so).setIfInBounds 24 v = X.rc D s pc st v so := rfl
theorem X.rc_out (D : Nat) (s : A.Regs) (pc st : Int) (si so v : Value) : (X.rc D s pc st si so).setIfInBounds 25 v = X.rc D s pc st si v := rfl
theorem X.rc_set (D : Nat) (s : A.Regs) (pc st : Int) (si so : Value) (j : Nat) (hj : j < 16) (v : Int) : (X.rc D s pc st si so).setIfInBounds (1 + j) (.int .u32 v) = X.rc D (A.set s j v) pc st si so :=
 A.lt16 (P := fun j => (X.rc D s pc st si so).setIfInBounds (1 + j) (.int .u32 v) = X.rc D (A.set s j v) pc st si so) ⟨by kernel_rfl, by kernel_rfl, by kernel_rfl, by kernel_rfl, by kernel_rfl, by kernel_rfl, by kernel_rfl, by kernel_rfl, by kernel_rfl, by kernel_rfl, by kernel_rfl, by kernel_rfl, by kernel_rfl, by kernel_rfl, by kernel_rfl, by kernel_rfl⟩ j hj
theorem X.rc_r (D : Nat) (s : A.Regs) (pc st : Int) (si so : Value) (j : Nat) (hj : j < 16) : (X.rc D s pc st si so)[1 + j]? = some (.int .u32 (s.r j)) :=
 A.lt16 (P := fun j => (X.rc D s pc st si so)[1 + j]? = some (.int .u32 (s.r j))) ⟨rfl, rfl, rfl, rfl, rfl, rfl, rfl, rfl, rfl, rfl, rfl, rfl, rfl, rfl, rfl, rfl⟩ j hj
theorem X.rc_range {D : Nat} {s : A.Regs} {pc st : Int} {si so : Value} {E : Nat} {t : TypeId} {w : World} (h : Has E (X.rc D s pc st si so) t w) : w.rangeAt E 1 (A.cells s).toList := by
 intro j y hj
 have hl : j < 21 := by
  rcases Nat.lt_or_ge j 21 with h1 | h1
  · exact h1
  · rw [List.getElem?_eq_none (by rw [Array.length_toList, A.size_cells]; omega)] at hj; cases hj
 refine h.cell (1 + j) y ?_
 have e : (X.rc D s pc st si so).toList = [.pointer (some ⟨D, 0, none⟩)] ++ ((A.cells s).toList ++ [.int .u32 pc, .int .i64 st, si, so]) := by kernel_rfl
 rw [← Array.getElem?_toList, e, List.getElem?_append_right (by simp), show 1 + j - ([Value.pointer (some ⟨D, 0, none⟩)] : List Value).length = j by simp, List.getElem?_append_left (by rw [Array.length_toList, A.size_cells]; omega)]
 exact hj
theorem Has.there {E : Nat} {cs : Array Value} {t : TypeId} {w : World} (h : Has E cs t w) (o n : Nat) (hn : o + n ≤ cs.size) : w.there E o n := by
 intro j hj
 have hj' : o + j < cs.size := by omega
 exact ⟨by rw [h.cell (o + j) cs[o + j] (Array.getElem?_eq_getElem hj')]; rfl, h.free _⟩
theorem rstart_any {F : Nat → Prop} {E : Nat} {x : X.St} {w : World} (h : RMac F E x w) (pc : Int) (s : A.Regs) (ok : A.Ok s) (p0 : 0 ≤ pc) (p1 : pc < 4294967296) :
 Calls Tryz.prog 26 #[.pointer (some ⟨E, 0, none⟩), .int .u32 pc, .agg (A.cells s)] w fun e w' => e = .returned (.tuple #[]) ∧ RMac F E ⟨x.ws, s, pc, 0, x.ins, x.outs⟩ w' ∧ But E w w' := by
 obtain ⟨D, C, ai, ni, ci, ao, no, co, h⟩ := h
 have hEw : E < w.heap.size := h.sub E h.inE
 go_enter Tryz.func26, Tryz.ntmps26
 go_upto_region 1 with (fail)
 generalize hw1 : w.alloc (Obj.cells _ _) = w1
 have hR : Has w.heap.size (A.cells s) 48 w1 := by rw [← hw1]; exact Has.new _ _ _
 have hK : Kept w w1 := by rw [← hw1]; exact (Kept.refl w).alloc _ _
 clear hw1
 have hM := h.kept hK
 have hne : w.heap.size ≠ E := by omega
 clear h
 generalize w.heap.size = g at *
 have c22 : w1.cell? ⟨E, 22, none⟩ = some (.int .u32 x.pc) := hM.box.cell 22 _ rfl
 have f22 := hM.box.free 22
 have hb := hM.box.set 22 (.int .u32 pc)
 rw [X.rc_pc] at hb
 have hB1 : But E w1 (w1.setCell ⟨E, 22, none⟩ (.int .u32 pc)) := (But.refl E w1).setCell _ _
 have hR2 := Lib.hid (hB1.has hne hR)
 go_upto_region 2 with (fail)
 generalize w1.setCell _ _ = w2 at *
 have hth := hb.there 1 21 (by rw [X.rc_size]; omega)
 have hb3 := Has.setN (A.cells s).toList 1 _ w2 hb
 rw [X.rc_regs] at hb3
 have hB3 : But E w2 (w2.setCells E 1 (A.cells s).toList) := but_setCells _ _ _ _ (But.refl E w2)
 replace hb3 := Lib.hid hb3
 replace hB3 := Lib.hid hB3
 clear hb c22 f22
 go_upto_region 3 with (first
  | (with_reducible refine load_has rfl 48 _ rfl _ rfl hR2.out Tryz.underlying48 rfl (A.info25 _) ?_)
  | (with_reducible refine wpList_store_mid rfl 48 _ _ rfl _ _ (A.cells s) rfl rfl hth (A.info25 _) (A.one_cells _) ?_; generalize World.setCells _ _ _ _ = w3 at *))
 have c23 : w3.cell? ⟨E, 23, none⟩ = some (.int .i64 x.st) := hb3.out.cell 23 _ rfl
 have f23 := hb3.out.free 23
 have hb4 := hb3.out.set 23 (.int .i64 0)
 rw [X.rc_st] at hb4
 have hB4 : But E w3 (w3.setCell ⟨E, 23, none⟩ (.int .i64 0)) := (But.refl E w3).setCell _ _
 have hBf := (hB1.trans hB3.out).trans hB4
 have hMf := Lib.hid (hM.own hBf s pc 0 hb4 ok p0 p1)
 have hBw := Lib.hid ((hK.but E).trans hBf)
 clear hb4 hB4 hBf hB1 hB3 hb3 hM hK hR2 hR hth
 go_wp2
 go_end0
 exact ⟨rfl, ⟨_, _, _, _, _, _, _, _, hMf.out⟩, hBw.out⟩
theorem Lo.new_no {w : World} (n : Int) (hn : n < 0 ∨ 4096 < n) (ap : Option Addr) (m c : Nat) :
 Calls Tryz.prog 20 #[.int .i64 n, .slice ap m c] w fun e w' => e = .returned (.tuple #[.pointer none, .int .i64 2]) ∧ w = w' := by
 have C := Lib.hid (M.new_no n hn w)
 go_enter Tryz.func20, Tryz.ntmps20
 go_wp2_with (fail)
 refine C.out.mono ?_; rintro e w1 ⟨rfl, rfl⟩
 go_wp2
 go_ret2
 exact ⟨rfl, rfl⟩
theorem Lo.place_no {F : Nat → Prop} {B : Nat} {x : X.St} {w : World} (h : Mac F B x w) (k : Nat) (ap : Option Addr) (n c : Nat) (xs : List Int) (hx : Ws w ap n c xs) (hf : ¬ k + n ≤ x.ws.length) (hk : k ≤ 1000000) :
 Calls Tryz.prog 21 #[.pointer (some ⟨B, 0, none⟩), .int .i64 k, .slice ap n c] w fun e w' => e = .returned (.int .i64 11) ∧ w = w' := by
 obtain ⟨ai, ni, ci, ao, no, co, h⟩ := h
 have C := Lib.hid (M.place_no h.mem k ap n c (Nat.le_trans hx.le hx.max) (by omega) (by omega) (by omega))
 clear h hx
 go_enter Tryz.func21, Tryz.ntmps21
 go_wp2_with (fail)
 refine C.out.mono ?_; rintro e w1 ⟨rfl, rfl⟩
 go_wp2
 go_ret
 exact ⟨rfl, rfl⟩
theorem Lo.rmem_no {w : World} (n : Int) (hn : n < 0 ∨ 4096 < n) :
 Calls Tryz.prog 42 #[.int .i64 n] w fun e w' => e = .returned (.tuple #[.pointer none, .int .i64 2]) ∧ w = w' := by
 rcases Int.lt_or_le n 0 with h | h
 · go_enter Tryz.func42, Tryz.ntmps42
   go_wp2
   go_ret2
   exact ⟨rfl, rfl⟩
 · have h1 : 4096 < n := by omega
   have h2 : ¬ n < 0 := by omega
   go_enter Tryz.func42, Tryz.ntmps42
   go_wp2
   go_ret2
   exact ⟨rfl, rfl⟩
theorem Lo.rnew_no {w : World} (n : Int) (hn : n < 0 ∨ 4096 < n) (ap : Option Addr) (m c : Nat) :
 Calls Tryz.prog 24 #[.int .i64 n, .slice ap m c] w fun e w' => e = .returned (.tuple #[.pointer none, .int .i64 2]) ∧ w = w' := by
 have C := Lib.hid (Lo.rmem_no (w := w) n hn)
 go_enter Tryz.func24, Tryz.ntmps24
 go_wp2_with (fail)
 refine C.out.mono ?_; rintro e w1 ⟨rfl, rfl⟩
 go_wp2
 go_ret2
 exact ⟨rfl, rfl⟩
def RLive (w0 : World) (E : Nat) (x : X.St) (w : World) : Prop := ∃ F, RMac F E x w ∧ (∀ k, F k → w0.heap.size ≤ k) ∧ Below w0.heap.size w0 w
theorem RLive.below {w0 : World} {B : Nat} {x : X.St} {w : World} (h : RLive w0 B x w) : Below w0.heap.size w0 w := by obtain ⟨F, h1, h2, h3⟩ := h; exact h3
theorem RLive.turn0 {w0 : World} {B : Nat} {x : X.St} {w w' : World} (h : RLive w0 B x w) (hT : Turn T0 w w') : RLive w0 B x w' := by
 obtain ⟨F, h1, h2, h3⟩ := h
 exact ⟨F, h1.turn hT fun _ _ h => h, h2, h3.trans (hT.below w0.heap.size h3.size fun _ h => h.elim)⟩
theorem RLive.kept {w0 : World} {B : Nat} {x : X.St} {w w' : World} (h : RLive w0 B x w) (hK : Kept w w') : RLive w0 B x w' := h.turn0 (hK.turn T0)
theorem Lo.t0 {w w' : World} (h : Below w.heap.size w w') : Turn T0 w w' := ⟨h.os, h.tape, h.output, h.size, fun k hk _ => h.block k hk⟩
theorem Live.lift {w0 w1 : World} {B : Nat} {x : X.St} {w : World} (h : Live w1 B x w) (hb : Below w0.heap.size w0 w1) : Live w0 B x w := by
 obtain ⟨F, h1, h2, h3⟩ := h
 exact ⟨F, h1, fun k hk => Nat.le_trans hb.size (h2 k hk), hb.trans (h3.mono hb.size)⟩
theorem RLive.lift {w0 w1 : World} {B : Nat} {x : X.St} {w : World} (h : RLive w1 B x w) (hb : Below w0.heap.size w0 w1) : RLive w0 B x w := by
 obtain ⟨F, h1, h2, h3⟩ := h
 exact ⟨F, h1, fun k hk => Nat.le_trans hb.size (h2 k hk), hb.trans (h3.mono hb.size)⟩
theorem Lo.rnew_live {w : World} (n : Nat) (hn : n ≤ 4096) {ap : Option Addr} {m c : Nat} {xs : List Int} (hx : Ws w ap m c xs) (hm : m ≤ 1000000000) :
 Calls Tryz.prog 24 #[.int .i64 n, .slice ap m c] w fun e w' => ∃ B, e = .returned (.tuple #[.pointer (some ⟨B, 0, none⟩), .int .i64 0]) ∧ RLive w B ⟨List.replicate n 0, A.none', 0, 0, xs, []⟩ w' := by
 refine (rnew_any n hn hx hm).mono ?_
 rintro e w' ⟨B, he, F, h1, h2, h3⟩
 exact ⟨B, he, F, h1, h3, h2.kept0⟩
theorem Lo.rstart_live {w0 : World} {B : Nat} {x : X.St} {w : World} (h : RLive w0 B x w) (pc : Int) (s : A.Regs) (ok : A.Ok s) (p0 : 0 ≤ pc) (p1 : pc < 4294967296) :
 Calls Tryz.prog 26 #[.pointer (some ⟨B, 0, none⟩), .int .u32 pc, .agg (A.cells s)] w fun e w' => e = .returned (.tuple #[]) ∧ RLive w0 B ⟨x.ws, s, pc, 0, x.ins, x.outs⟩ w' := by
 obtain ⟨F, h1, h2, h3⟩ := h
 refine (rstart_any h1 pc s ok p0 p1).mono ?_
 rintro e w' ⟨he, q1, q2⟩
 obtain ⟨D, C, ai, ni, ci, ao, no, co, h⟩ := h1
 exact ⟨he, F, q1, h2, h3.trans ((q2.turn h.inE).below w0.heap.size h3.size h2)⟩
abbrev Lo.r0 : A.Regs := A.none'
theorem Lo.rplace_live {w0 : World} {B : Nat} {x : X.St} {w : World} (h : RLive w0 B x w) (k : Nat) {ap : Option Addr} {n c : Nat} {xs : List Int} (hx : Ws w0 ap n c xs) (hf : k + n ≤ x.ws.length) :
 ∃ D, w.cell? ⟨B, 0, none⟩ = some (.pointer (some ⟨D, 0, none⟩)) ∧ Calls Tryz.prog 25 #[.pointer (some ⟨D, 0, none⟩), .int .i64 k, .slice ap n c] w fun e w' => e = .returned (.int .i64 0) ∧ RLive w0 B ⟨M.placed x.ws k xs, x.s, x.pc, x.st, x.ins, x.outs⟩ w' := by
 obtain ⟨F, ⟨D, C, ai, ni, ci, ao, no, co, h1⟩, h2, h3⟩ := h
 refine ⟨D, h1.box.cell 0 _ rfl, ?_⟩
 have hC := h2 C h1.inC
 refine (R.place_yes h1.mem k ap n c xs (hx.below (w0 := w0) (Nat.le_refl _) h3) (fun ad e hn => by subst e; have := hx.rw.lt hn; omega) hf).mono ?_
 rintro e w' ⟨he, hm, hB⟩
 exact ⟨he, F, ⟨D, C, ai, ni, ci, ao, no, co, h1.words hB _ hm⟩, h2, h3.trans ((hB.turn h1.inC).below w0.heap.size h3.size h2)⟩
theorem Lo.rplace_no {w0 : World} {B : Nat} {x : X.St} {w : World} (h : RLive w0 B x w) (k : Nat) (ap : Option Addr) (n c : Nat) (hn : n ≤ maxLen) (hk : k ≤ 1000000) (hf : ¬ k + n ≤ x.ws.length) :
 ∃ D, w.cell? ⟨B, 0, none⟩ = some (.pointer (some ⟨D, 0, none⟩)) ∧ Calls Tryz.prog 25 #[.pointer (some ⟨D, 0, none⟩), .int .i64 k, .slice ap n c] w fun e w' => e = .returned (.int .i64 11) ∧ w = w' := by
 obtain ⟨F, ⟨D, C, ai, ni, ci, ao, no, co, h1⟩, h2, h3⟩ := h
 exact ⟨D, h1.box.cell 0 _ rfl, R.place_no h1.mem k ap n c hn (by omega) (by omega) (by omega)⟩
def Lo.mE (W S : List Int) (Y : List Ob.Y) (b m : Int) : Int := if Lo.iE W S Y b = 0 then (if m < 0 ∨ 4096 < m then 2 else if b / 4 + W.length ≤ m then 0 else 11) else Lo.iE W S Y b
def Lo.st (W S : List Int) (b m : Int) (ins : List Int) : X.St := ⟨M.placed (List.replicate m.toNat 0) (b / 4).toNat (Lo.img S b 0 W), Lo.regs b m, b, 0, ins, []⟩
def Lo.MacR (E : Int) (x : X.St) (w : World) (r : Ending) (w' : World) : Prop :=
 (E = 0 → ∃ B, r = .returned (.tuple #[.pointer (some ⟨B, 0, none⟩), .int .i64 0]) ∧ Live w B x w') ∧ (E ≠ 0 → r = .returned (.tuple #[.pointer none, .int .i64 E]) ∧ Below w.heap.size w w')
def Lo.RMacR (E : Int) (x : X.St) (w : World) (r : Ending) (w' : World) : Prop :=
 (E = 0 → ∃ B, r = .returned (.tuple #[.pointer (some ⟨B, 0, none⟩), .int .i64 0]) ∧ RLive w B x w') ∧ (E ≠ 0 → r = .returned (.tuple #[.pointer none, .int .i64 E]) ∧ Below w.heap.size w w')
theorem Lo.iE_cases (W S : List Int) (Y : List Ob.Y) (b : Int) (h : Lo.iE W S Y b = 0) : Ob.may W S Y = 0 ∧ Lo.base b := by
 by_cases c : Ob.may W S Y = 0
 · by_cases d : Lo.base b
   · exact ⟨c, d⟩
   · rw [(Lo.bad_E c d).1] at h; cases h
 · rw [(Lo.not_E c).1] at h; exact absurd h c
theorem Lo.img_base {S W : List Int} {b : Int} (h : ∀ x ∈ W, 0 ≤ x ∧ x < 4294967296) : ∀ x ∈ Lo.img S b 0 W, 0 ≤ x ∧ x < 4294967296 := Lo.img_rng 0 h
set_option maxHeartbeats 2000000 in
set_option maxRecDepth 100000 in
theorem Lo.machine_any {w : World} {A B C : Option Addr} {n c m d k e : Nat} {ws ss : List Int} {ys : List Ob.Y} (hW : Wo w A n c ws) (hS : In w B m d ss) (hY : Sy w C k e ys) (hsz : ∀ y ∈ ys, y.1.size ≤ 1000000) (b mm : Int)
 {ap : Option Addr} {ni ci : Nat} {is : List Int} (hI : Ws w ap ni ci is) (hni : ni ≤ 1000000000) :
 Calls Tryz.prog 6 #[.agg #[.slice A n c, .slice B m d, .slice C k e], .int .i64 b, .int .i64 mm, .slice ap ni ci] w (Lo.MacR (Lo.mE ws ss ys b mm) (Lo.st ws ss b mm is) w) := by
 have hO := Has.new #[.slice A n c, .slice B m d, .slice C k e] 33 w
 have hB := ((Kept.refl w).alloc #[.slice A n c, .slice B m d, .slice C k e] 33).below
 have hlw := hW.len
 have hwr := hW.rng
 have hS1 : w.heap.size ≤ (w.alloc (.cells #[.slice A n c, .slice B m d, .slice C k e] 33)).heap.size := hB.size
 have hI0 := Lib.hid hI
 replace hW := Lib.hid (hW.below hB)
 replace hS := Lib.hid (hS.below hB)
 replace hY := Lib.hid (hY.below hB)
 replace hB := Lib.hid hB
 replace hO := Lib.hid hO
 clear hI
 have CI := Lib.hid (fun (v : World) (h1 : Wo v A n c ws) (h2 : In v B m d ss) (h3 : Sy v C k e ys) => Lo.image_any h1 h2 h3 hsz b)
 by_cases ci0 : Lo.iE ws ss ys b = 0
 case neg =>
  have e1 : Lo.mE ws ss ys b mm = Lo.iE ws ss ys b := by unfold Lo.mE; rw [if_neg ci0]
  rw [e1]
  generalize hst : Lo.st ws ss b mm is = st at *
  clear hst
  generalize Lo.iE ws ss ys b = z at *
  have z1 : (z == 0) = false := by simpa using ci0
  have z2 : (z != 0) = true := by simpa using ci0
  clear hwr
  obtain ⟨Q, hQ⟩ : ∃ Q, Q = Lo.MacR z st w := ⟨_, rfl⟩
  rw [← hQ]
  replace hQ := Lib.hid hQ
  go_enter Tryz.func6, Tryz.ntmps6
  go_wp2_with (first
   | (with_reducible refine load_has (o := ⟨some 15, _, _, _, _, _⟩) rfl 33 (.tmp 4) rfl w.heap.size rfl hO.out Tryz.underlying33 rfl (Ob.info26 _ _ _) ?_)
   | fail)
  generalize w.alloc (.cells #[.slice A n c, .slice B m d, .slice C k e] 33) = w1 at *
  refine (CI.out _ hW.out hS.out hY.out).mono ?_; rintro r w2 ⟨A1, n1, c1, rfl, hP, hE⟩
  replace hB := Lib.hid (hB.out.trans (hE.mono hS1))
  clear hE CI hW hS hY hO hP
  go_wp2
  rw [hQ.out]
  exact ⟨fun q => absurd q ci0, fun _ => ⟨rfl, hB.out⟩⟩
 obtain ⟨hmay, hbase⟩ := Lo.iE_cases ws ss ys b ci0
 have hn0 := (Lo.may_ok hwr hmay).hn
 rw [hlw] at hn0
 have hir := Lo.img_base (S := ss) (b := b) hwr
 rw [ci0, Lo.ok_W hmay hbase] at CI
 have hil := Lo.img_len ss b ws 0
 rw [hlw] at hil
 obtain ⟨b0, b1, b2⟩ := hbase
 have e1 : Lo.mE ws ss ys b mm = if mm < 0 ∨ 4096 < mm then 2 else if b / 4 + ws.length ≤ mm then 0 else 11 := by unfold Lo.mE; rw [if_pos ci0]
 rw [e1, hlw]
 clear e1 ci0 hmay
 have hsts : Lo.st ws ss b mm is = ⟨M.placed (List.replicate mm.toNat 0) (b / 4).toNat (Lo.img ss b 0 ws), Lo.regs b mm, b, 0, is, []⟩ := rfl
 generalize Lo.st ws ss b mm is = st at *
 generalize Lo.img ss b 0 ws = im at *
 replace hir := Lib.hid hir
 replace hsts := Lib.hid hsts
 clear hwr
 by_cases cm : mm < 0 ∨ 4096 < mm
 · rw [if_pos cm]
   have CN := Lib.hid (fun v : World => Lo.new_no (w := v) mm cm ap ni ci)
   obtain ⟨Q, hQ⟩ : ∃ Q, Q = Lo.MacR 2 st w := ⟨_, rfl⟩
   rw [← hQ]
   replace hQ := Lib.hid hQ
   go_enter Tryz.func6, Tryz.ntmps6
   go_wp2_with (first
    | (with_reducible refine load_has (o := ⟨some 15, _, _, _, _, _⟩) rfl 33 (.tmp 4) rfl w.heap.size rfl hO.out Tryz.underlying33 rfl (Ob.info26 _ _ _) ?_)
    | fail)
   generalize w.alloc (.cells #[.slice A n c, .slice B m d, .slice C k e] 33) = w1 at *
   refine (CI.out _ hW.out hS.out hY.out).mono ?_; rintro r w2 ⟨A1, n1, c1, rfl, hP, hE⟩
   replace hB := Lib.hid (hB.out.trans (hE.mono hS1))
   clear hE CI hW hS hY hO hP
   go_wp2_with (fail)
   refine (CN.out _).mono ?_; rintro r w3 ⟨rfl, rfl⟩
   clear CN
   go_wp2
   rw [hQ.out]
   exact ⟨fun q => absurd q (by decide), fun _ => ⟨rfl, hB.out⟩⟩
 rw [if_neg cm]
 obtain ⟨N, rfl⟩ : ∃ N : Nat, mm = N := ⟨mm.toNat, by omega⟩
 obtain ⟨K, hK⟩ : ∃ K : Nat, b / 4 = K := ⟨(b / 4).toNat, by omega⟩
 rw [hK]
 rw [hK, Int.toNat_natCast, Int.toNat_natCast] at hsts
 have hN : N ≤ 4096 := by omega
 have hK1 : K ≤ 4096 := by omega
 have hlr : (List.replicate N (0 : Int)).length = N := List.length_replicate
 by_cases cf : (K : Int) + n ≤ N
 · rw [if_pos cf]
   obtain ⟨Q, hQ⟩ : ∃ Q, Q = Lo.MacR 0 st w := ⟨_, rfl⟩
   rw [← hQ]
   replace hQ := Lib.hid hQ
   go_enter Tryz.func6, Tryz.ntmps6
   go_wp2_with (first
    | (with_reducible refine load_has (o := ⟨some 15, _, _, _, _, _⟩) rfl 33 (.tmp 4) rfl w.heap.size rfl hO.out Tryz.underlying33 rfl (Ob.info26 _ _ _) ?_)
    | fail)
   generalize w.alloc (.cells #[.slice A n c, .slice B m d, .slice C k e] 33) = w1 at *
   refine (CI.out _ hW.out hS.out hY.out).mono ?_; rintro r w2 ⟨A1, n1, c1, rfl, hP, hE⟩
   have hP1 := hP.rg.rw (L := 4294967296) hir.out
   have hn1 := hP1.len
   rw [hil] at hn1
   subst hn1
   replace hB := Lib.hid (hB.out.trans (hE.mono hS1))
   have hI2 := Lib.hid (hI0.out.below (w0 := w) (Nat.le_refl _) hB.out)
   replace hP := Lib.hid hP1.ws
   clear hE CI hW hS hY hO hP1
   go_wp2_with (fail)
   refine (new_live N hN hI2.out hni).mono ?_; rintro r w3 ⟨M0, rfl, hL⟩
   replace hP := Lib.hid (hP.out.below (w0 := w2) (Nat.le_refl _) hL.below)
   replace hL := Lib.hid (hL.lift hB.out)
   clear hB hI2
   go_wp2_with (fail)
   refine (place_live hL.out K A1 n c1 im hP.out (by rw [hlr]; omega)).mono ?_; rintro r w4 ⟨rfl, hL4⟩
   replace hL := Lib.hid hL4
   clear hL4 hP
   go_wp2_with (fail)
   refine (Lo.regs_any b N _).mono ?_; rintro r w5 ⟨rfl, hK5⟩
   replace hL := Lib.hid (hL.out.kept hK5)
   clear hK5
   have ok := Lo.ok_regs b N
   generalize Lo.regs b N = rg at *
   go_wp2_with (fail)
   refine (start_live hL.out b rg ok b0 (by omega)).mono ?_; rintro r w6 ⟨rfl, hL6⟩
   replace hL := Lib.hid hL6
   clear hL6 ok
   go_wp2
   rw [hQ.out]
   refine ⟨fun _ => ⟨M0, rfl, ?_⟩, fun q => absurd rfl q⟩
   rw [hsts.out]
   exact hL.out
 · rw [if_neg cf]
   obtain ⟨Q, hQ⟩ : ∃ Q, Q = Lo.MacR 11 st w := ⟨_, rfl⟩
   rw [← hQ]
   replace hQ := Lib.hid hQ
   go_enter Tryz.func6, Tryz.ntmps6
   go_wp2_with (first
    | (with_reducible refine load_has (o := ⟨some 15, _, _, _, _, _⟩) rfl 33 (.tmp 4) rfl w.heap.size rfl hO.out Tryz.underlying33 rfl (Ob.info26 _ _ _) ?_)
    | fail)
   generalize w.alloc (.cells #[.slice A n c, .slice B m d, .slice C k e] 33) = w1 at *
   refine (CI.out _ hW.out hS.out hY.out).mono ?_; rintro r w2 ⟨A1, n1, c1, rfl, hP, hE⟩
   have hP1 := hP.rg.rw (L := 4294967296) hir.out
   have hn1 := hP1.len
   rw [hil] at hn1
   subst hn1
   replace hB := Lib.hid (hB.out.trans (hE.mono hS1))
   have hI2 := Lib.hid (hI0.out.below (w0 := w) (Nat.le_refl _) hB.out)
   replace hP := Lib.hid hP1.ws
   clear hE CI hW hS hY hO hP1
   go_wp2_with (fail)
   refine (new_live N hN hI2.out hni).mono ?_; rintro r w3 ⟨M0, rfl, hL⟩
   replace hP := Lib.hid (hP.out.below (w0 := w2) (Nat.le_refl _) hL.below)
   replace hL := Lib.hid (hL.lift hB.out)
   clear hB hI2
   have CPn := Lib.hid (fun (v : World) (hv : Live w M0 ⟨List.replicate N 0, Lo.r0, 0, 0, is, []⟩ v) (h1 : Ws v A1 n c1 im) => by
    obtain ⟨F, hv1, _⟩ := hv
    exact Lo.place_no hv1 K A1 n c1 im h1 (by rw [hlr]; omega) (by omega))
   go_wp2_with (fail)
   refine (CPn.out _ hL.out hP.out).mono ?_; rintro r w4 ⟨rfl, rfl⟩
   clear CPn hP
   go_wp2
   rw [hQ.out]
   exact ⟨fun q => absurd q (by decide), fun _ => ⟨rfl, hL.out.below⟩⟩
set_option maxHeartbeats 2000000 in
set_option maxRecDepth 100000 in
theorem Lo.rmachine_any {w : World} {A B C : Option Addr} {n c m d k e : Nat} {ws ss : List Int} {ys : List Ob.Y} (hW : Wo w A n c ws) (hS : In w B m d ss) (hY : Sy w C k e ys) (hsz : ∀ y ∈ ys, y.1.size ≤ 1000000) (b mm : Int)
 {ap : Option Addr} {ni ci : Nat} {is : List Int} (hI : Ws w ap ni ci is) (hni : ni ≤ 1000000000) :
 Calls Tryz.prog 7 #[.agg #[.slice A n c, .slice B m d, .slice C k e], .int .i64 b, .int .i64 mm, .slice ap ni ci] w (Lo.RMacR (Lo.mE ws ss ys b mm) (Lo.st ws ss b mm is) w) := by
 have hO := Has.new #[.slice A n c, .slice B m d, .slice C k e] 33 w
 have hB := ((Kept.refl w).alloc #[.slice A n c, .slice B m d, .slice C k e] 33).below
 have hlw := hW.len
 have hwr := hW.rng
 have hS1 : w.heap.size ≤ (w.alloc (.cells #[.slice A n c, .slice B m d, .slice C k e] 33)).heap.size := hB.size
 have hI0 := Lib.hid hI
 replace hW := Lib.hid (hW.below hB)
 replace hS := Lib.hid (hS.below hB)
 replace hY := Lib.hid (hY.below hB)
 replace hB := Lib.hid hB
 replace hO := Lib.hid hO
 clear hI
 have CI := Lib.hid (fun (v : World) (h1 : Wo v A n c ws) (h2 : In v B m d ss) (h3 : Sy v C k e ys) => Lo.rimage_any h1 h2 h3 hsz b)
 by_cases ci0 : Lo.iE ws ss ys b = 0
 case neg =>
  have e1 : Lo.mE ws ss ys b mm = Lo.iE ws ss ys b := by unfold Lo.mE; rw [if_neg ci0]
  rw [e1]
  generalize hst : Lo.st ws ss b mm is = st at *
  clear hst
  generalize Lo.iE ws ss ys b = z at *
  have z1 : (z == 0) = false := by simpa using ci0
  have z2 : (z != 0) = true := by simpa using ci0
  clear hwr
  obtain ⟨Q, hQ⟩ : ∃ Q, Q = Lo.RMacR z st w := ⟨_, rfl⟩
  rw [← hQ]
  replace hQ := Lib.hid hQ
  go_enter Tryz.func7, Tryz.ntmps7
  go_wp2_with (first
   | (with_reducible refine load_has (o := ⟨some 15, _, _, _, _, _⟩) rfl 33 (.tmp 4) rfl w.heap.size rfl hO.out Tryz.underlying33 rfl (Ob.info26 _ _ _) ?_)
   | fail)
  generalize w.alloc (.cells #[.slice A n c, .slice B m d, .slice C k e] 33) = w1 at *
  refine (CI.out _ hW.out hS.out hY.out).mono ?_; rintro r w2 ⟨A1, n1, c1, rfl, hP, hE⟩
  replace hB := Lib.hid (hB.out.trans (hE.mono hS1))
  clear hE CI hW hS hY hO hP
  go_wp2
  rw [hQ.out]
  exact ⟨fun q => absurd q ci0, fun _ => ⟨rfl, hB.out⟩⟩
 obtain ⟨hmay, hbase⟩ := Lo.iE_cases ws ss ys b ci0
 have hn0 := (Lo.may_ok hwr hmay).hn
 rw [hlw] at hn0
 have hir := Lo.img_base (S := ss) (b := b) hwr
 rw [ci0, Lo.ok_W hmay hbase] at CI
 have hil := Lo.img_len ss b ws 0
 rw [hlw] at hil
 obtain ⟨b0, b1, b2⟩ := hbase
 have e1 : Lo.mE ws ss ys b mm = if mm < 0 ∨ 4096 < mm then 2 else if b / 4 + ws.length ≤ mm then 0 else 11 := by unfold Lo.mE; rw [if_pos ci0]
 rw [e1, hlw]
 clear e1 ci0 hmay
 have hsts : Lo.st ws ss b mm is = ⟨M.placed (List.replicate mm.toNat 0) (b / 4).toNat (Lo.img ss b 0 ws), Lo.regs b mm, b, 0, is, []⟩ := rfl
 generalize Lo.st ws ss b mm is = st at *
 generalize Lo.img ss b 0 ws = im at *
 replace hir := Lib.hid hir
 replace hsts := Lib.hid hsts
 clear hwr
 by_cases cm : mm < 0 ∨ 4096 < mm
 · rw [if_pos cm]
   have CN := Lib.hid (fun v : World => Lo.rnew_no (w := v) mm cm ap ni ci)
   obtain ⟨Q, hQ⟩ : ∃ Q, Q = Lo.RMacR 2 st w := ⟨_, rfl⟩
   rw [← hQ]
   replace hQ := Lib.hid hQ
   go_enter Tryz.func7, Tryz.ntmps7
   go_wp2_with (first
    | (with_reducible refine load_has (o := ⟨some 15, _, _, _, _, _⟩) rfl 33 (.tmp 4) rfl w.heap.size rfl hO.out Tryz.underlying33 rfl (Ob.info26 _ _ _) ?_)
    | fail)
   generalize w.alloc (.cells #[.slice A n c, .slice B m d, .slice C k e] 33) = w1 at *
   refine (CI.out _ hW.out hS.out hY.out).mono ?_; rintro r w2 ⟨A1, n1, c1, rfl, hP, hE⟩
   replace hB := Lib.hid (hB.out.trans (hE.mono hS1))
   clear hE CI hW hS hY hO hP
   go_wp2_with (fail)
   refine (CN.out _).mono ?_; rintro r w3 ⟨rfl, rfl⟩
   clear CN
   go_wp2
   rw [hQ.out]
   exact ⟨fun q => absurd q (by decide), fun _ => ⟨rfl, hB.out⟩⟩
 rw [if_neg cm]
 obtain ⟨N, rfl⟩ : ∃ N : Nat, mm = N := ⟨mm.toNat, by omega⟩
 obtain ⟨K, hK⟩ : ∃ K : Nat, b / 4 = K := ⟨(b / 4).toNat, by omega⟩
 rw [hK]
 rw [hK, Int.toNat_natCast, Int.toNat_natCast] at hsts
 have hN : N ≤ 4096 := by omega
 have hK1 : K ≤ 4096 := by omega
 have hlr : (List.replicate N (0 : Int)).length = N := List.length_replicate
 by_cases cf : (K : Int) + n ≤ N
 · rw [if_pos cf]
   obtain ⟨Q, hQ⟩ : ∃ Q, Q = Lo.RMacR 0 st w := ⟨_, rfl⟩
   rw [← hQ]
   replace hQ := Lib.hid hQ
   go_enter Tryz.func7, Tryz.ntmps7
   go_wp2_with (first
    | (with_reducible refine load_has (o := ⟨some 15, _, _, _, _, _⟩) rfl 33 (.tmp 4) rfl w.heap.size rfl hO.out Tryz.underlying33 rfl (Ob.info26 _ _ _) ?_)
    | fail)
   generalize w.alloc (.cells #[.slice A n c, .slice B m d, .slice C k e] 33) = w1 at *
   refine (CI.out _ hW.out hS.out hY.out).mono ?_; rintro r w2 ⟨A1, n1, c1, rfl, hP, hE⟩
   have hP1 := hP.rg.rw (L := 4294967296) hir.out
   have hn1 := hP1.len
   rw [hil] at hn1
   subst hn1
   replace hB := Lib.hid (hB.out.trans (hE.mono hS1))
   have hI2 := Lib.hid (hI0.out.below (w0 := w) (Nat.le_refl _) hB.out)
   replace hP := Lib.hid hP1.ws
   clear hE CI hW hS hY hO hP1
   go_wp2_with (fail)
   refine (Lo.rnew_live N hN hI2.out hni).mono ?_; rintro r w3 ⟨M0, rfl, hL⟩
   have hP2 := Lib.hid hP.out
   replace hL := Lib.hid hL
   clear hP hI2
   obtain ⟨D0, hD0, hPl⟩ := Lo.rplace_live hL.out K hP2.out (by rw [hlr]; omega)
   replace hPl := Lib.hid hPl
   go_wp2_with (fail)
   refine hPl.out.mono ?_; rintro r w4 ⟨rfl, hL4⟩
   replace hL := Lib.hid (hL4.lift hB.out)
   clear hL4 hP2 hPl hD0 hB
   go_wp2_with (fail)
   refine (Lo.rregs_any b N _).mono ?_; rintro r w5 ⟨rfl, hK5⟩
   replace hL := Lib.hid (hL.out.kept hK5)
   clear hK5
   have ok := Lo.ok_regs b N
   generalize Lo.regs b N = rg at *
   go_wp2_with (fail)
   refine (Lo.rstart_live hL.out b rg ok b0 (by omega)).mono ?_; rintro r w6 ⟨rfl, hL6⟩
   replace hL := Lib.hid hL6
   clear hL6 ok
   go_wp2
   rw [hQ.out]
   refine ⟨fun _ => ⟨M0, rfl, ?_⟩, fun q => absurd rfl q⟩
   rw [hsts.out]
   exact hL.out
 · rw [if_neg cf]
   obtain ⟨Q, hQ⟩ : ∃ Q, Q = Lo.RMacR 11 st w := ⟨_, rfl⟩
   rw [← hQ]
   replace hQ := Lib.hid hQ
   go_enter Tryz.func7, Tryz.ntmps7
   go_wp2_with (first
    | (with_reducible refine load_has (o := ⟨some 15, _, _, _, _, _⟩) rfl 33 (.tmp 4) rfl w.heap.size rfl hO.out Tryz.underlying33 rfl (Ob.info26 _ _ _) ?_)
    | fail)
   generalize w.alloc (.cells #[.slice A n c, .slice B m d, .slice C k e] 33) = w1 at *
   refine (CI.out _ hW.out hS.out hY.out).mono ?_; rintro r w2 ⟨A1, n1, c1, rfl, hP, hE⟩
   have hP1 := hP.rg.rw (L := 4294967296) hir.out
   have hn1 := hP1.len
   rw [hil] at hn1
   subst hn1
   replace hB := Lib.hid (hB.out.trans (hE.mono hS1))
   have hI2 := Lib.hid (hI0.out.below (w0 := w) (Nat.le_refl _) hB.out)
   replace hP := Lib.hid hP1.ws
   clear hE CI hW hS hY hO hP1
   go_wp2_with (fail)
   refine (Lo.rnew_live N hN hI2.out hni).mono ?_; rintro r w3 ⟨M0, rfl, hL⟩
   have hP2 := Lib.hid hP.out
   replace hL := Lib.hid hL
   clear hP hI2
   obtain ⟨D0, hD0, hPl⟩ := Lo.rplace_no hL.out K A1 n c1 (by have := hP2.out.le; have := hP2.out.max; omega) (by omega) (by rw [hlr]; omega)
   replace hPl := Lib.hid hPl
   go_wp2_with (fail)
   refine hPl.out.mono ?_; rintro r w4 ⟨rfl, rfl⟩
   replace hL := Lib.hid (hL.out.lift hB.out)
   clear hP2 hPl hD0 hB
   go_wp2
   rw [hQ.out]
   exact ⟨fun q => absurd q (by decide), fun _ => ⟨rfl, hL.out.below⟩⟩
structure Ob.Own (base O : Nat) (A : Option Addr) (n c : Nat) (B : Option Addr) (m d : Nat) (C : Option Addr) (k e : Nat) (W S : List Int) (Y : List Ob.Y) (w : World) : Prop where
 hG : Has O #[.slice A n c, .slice B m d, .slice C k e] 33 w
 hP : On 43 .u32 base A n c W w
 hQ : On 3 .i64 base B m d S w
 hY : Os 61 base C k e Y w
 hO : base ≤ O
section
variable {base O : Nat} {A B C : Option Addr} {n c m d k e : Nat} {W S : List Int} {Y : List Ob.Y} {w w' : World}
theorem Ob.Own.below (h : Ob.Own base O A n c B m d C k e W S Y w) (hb : Below w.heap.size w w') : Ob.Own base O A n c B m d C k e W S Y w' :=
 ⟨h.hG.below hb, h.hP.below hb, h.hQ.below hb, h.hY.below hb, h.hO⟩
theorem Ob.Own.wo (h : Ob.Own base O A n c B m d C k e W S Y w) (hr : ∀ x ∈ W, 0 ≤ x ∧ x < 4294967296) : Wo w A n c W := h.hP.rg.rw hr
theorem Ob.Own.in (h : Ob.Own base O A n c B m d C k e W S Y w) : In w B m d S := h.hQ.rg
theorem Ob.Own.sy (h : Ob.Own base O A n c B m d C k e W S Y w) : Sy w C k e Y := h.hY.sy
end
theorem Lo.ex1 : Lo.iE [4, 7] [0] [] 8 = 0 := by decide +kernel
theorem Lo.ex2 : Lo.iW [4, 7] [0] [] 8 = [12, 7] := by decide +kernel
theorem Lo.ex3 : (Lo.regs 8 2).r 13 = 8 := by decide +kernel
set_option maxRecDepth 100000 in
theorem Lo.shown_any (w : World) : Calls Tryz.prog 4 #[] w fun e w' => e = .returned (.bool true) ∧ Below w.heap.size w w' := by
 have hA1 := (((Kept.refl w).alloc #[.int .u32 4, .int .u32 7] 43).alloc #[.int .i64 0] 3).below
 have hX := Lib.hid (((Rg.two ((Has.new #[.int .u32 4, .int .u32 7] 43 w).alloc (.cells #[.int .i64 0] 3))).rw (L := 4294967296) (by simp) : Wo _ _ _ _ _))
 have hS := Lib.hid (Rg.one (Has.new1 #[.int .i64 0] 3 w (.cells #[.int .u32 4, .int .u32 7] 43)))
 go_enter Tryz.func4, Tryz.ntmps4
 go_wp2_with (fail)
 generalize (w.alloc (.cells #[.int .u32 4, .int .u32 7] 43)).alloc (.cells #[.int .i64 0] 3) = w1 at *
 refine (Lo.image_any hX.out hS.out (Sy.empty w1) (by simp) 8).mono ?_; rintro e w2 ⟨A2, n2, c2, rfl, hP, hE⟩
 rw [Lo.ex1]
 rw [Lo.ex2] at hP
 have hB := hA1.trans (hE.mono hA1.size)
 clear hX hS hA1 hE
 have hA := ((Kept.refl w2).alloc #[.int .u32 12, .int .u32 7] 43).below
 have hP2 := Lib.hid (hP.rg.below hA)
 have hL := Lib.hid (Rg.two (Has.new #[.int .u32 12, .int .u32 7] 43 w2))
 replace hB := Lib.hid (hB.trans (hA.mono hB.size))
 clear hP hA
 go_wp2_with (fail)
 generalize w2.alloc (.cells #[.int .u32 12, .int .u32 7] 43) = w3 at *
 refine (Ch.same5_any hP2.out hL.out).mono ?_; rintro e w4 ⟨rfl, hE⟩
 rw [decide_eq_true rfl]
 replace hB := Lib.hid (hB.out.trans (hE.mono hB.out.size))
 clear hP2 hL hE
 go_wp2_with (fail)
 refine (Lo.regs_any 8 2 w4).mono ?_; rintro e w5 ⟨rfl, hK⟩
 replace hB := Lib.hid (hB.out.trans (hK.below.mono hB.out.size))
 clear hK
 have hf := A.field_R (Lo.regs 8 2)
 have hi : ∀ W, (Instr.index 46 (.agg ((A.cells (Lo.regs 8 2)).extract 0 16)) (.int .i64 13)).run Tryz.prog W = .ok (.int .u32 8) W := fun W => by have h := A.index_R (Lo.regs 8 2) 13 (by omega) W; rw [Lo.ex3] at h; exact h
 generalize Lo.regs 8 2 = s5 at *
 generalize (A.cells s5).extract 0 16 = c5 at *
 go_wp2
 go_ret
 exact ⟨rfl, hB.out⟩
theorem Lo.and31 (n : Int) : ∃ a : Nat, bits .and .i64 n 31 = a ∧ a < 32 := by
 have h : (BitVec.ofInt 64 31).toNat = 2 ^ 5 - 1 := by decide
 have key : (BitVec.ofInt 64 n &&& BitVec.ofInt 64 31).toNat = (n % ((2 ^ 64 : Nat) : Int)).toNat % 2 ^ 5 := by
  rw [BitVec.toNat_and, BitVec.toNat_ofInt, h, Nat.and_two_pow_sub_one_eq_mod]
 refine ⟨(n % ((2 ^ 64 : Nat) : Int)).toNat % 2 ^ 5, ?_, Nat.mod_lt _ (by decide)⟩
 show IntKind.i64.wrap ((BitVec.ofInt 64 n &&& BitVec.ofInt 64 31).toNat : Nat) = _
 rw [key, IntKind.wrap_i64]
 omega
theorem Lo.and15 (n : Int) : ∃ a : Nat, bits .and .i64 n 15 = a ∧ a < 16 := by
 have h : (BitVec.ofInt 64 15).toNat = 2 ^ 4 - 1 := by decide
 have key : (BitVec.ofInt 64 n &&& BitVec.ofInt 64 15).toNat = (n % ((2 ^ 64 : Nat) : Int)).toNat % 2 ^ 4 := by
  rw [BitVec.toNat_and, BitVec.toNat_ofInt, h, Nat.and_two_pow_sub_one_eq_mod]
 refine ⟨(n % ((2 ^ 64 : Nat) : Int)).toNat % 2 ^ 4, ?_, Nat.mod_lt _ (by decide)⟩
 show IntKind.i64.wrap ((BitVec.ofInt 64 n &&& BitVec.ofInt 64 15).toNat : Nat) = _
 rw [key, IntKind.wrap_i64]
 omega
structure Lo.Next (S : List Int) (n t : Nat) : Prop where
 le : t ≤ S.length
 lo : ∀ j, j < t → S.getD j 0 < (n : Int)
 hi : ∀ j, t ≤ j → j < S.length → (n : Int) ≤ S.getD j 0
theorem Lo.exec_mid {P : Program} {o : Oper} {a : Act} {w : World} (ty : TypeId) (x : Operand) (ho : o.op = .load ty x) (b off : Nat) (hx : a.eval x = .pointer (some ⟨b, off, none⟩)) (cs : Array Value) {d : TypeDesc} (hc : w.rangeAt b off cs.toList)
 (hu : P.underlying ty = some d) (hd : d.isRow = true) (hi : (P.info? ty).map (·.size) = some cs.size) : (execOp a.eval o).run P w = .ok (.value (.agg cs)) w := by
 have := run_loadVar_mid (P := P) w b off ty cs.toList d hc hu hd (by simpa using hi)
 unfold execOp
 simp only [ho, hx, Instr.loadAt, Instr.sureAddr, Sem.run_bind, Sem.run_pure, Result.andThen_ok, this, Array.toArray_toList]
theorem Lo.exec_neq {o : Oper} {a : Act} {w : World} (x y : Operand) (ho : o.op = .binOp .neq 48 x y 48) (s : A.Regs) (hx : a.eval x = .agg (A.cells s)) (hy : a.eval y = .agg (A.cells s)) :
 (execOp a.eval o).run Tryz.prog w = .ok (.value (.bool false)) w := by
 have e : binOp BinOp.neq 48 (.agg (A.cells s)) (.agg (A.cells s)) = (do pure (.bool (!(← Op.equal 48 (.agg (A.cells s)) (.agg (A.cells s)))))) := by simp only [binOp]
 unfold execOp
 simp only [ho, hx, hy, Sem.run_bind]
 rw [run_eqGuard_agg w BinOp.neq 48 x y (A.cells s) (A.cells s) (by kernel_rfl)]
 simp only [Result.andThen_ok, e, Sem.run_bind, A.eq_regs, Sem.run_pure]
 rfl
theorem Lo.keepR {F : Nat → Prop} {E : Nat} {x : X.St} {D C : Nat} {ai : Option Addr} {ni ci : Nat} {ao : Option Addr} {no co : Nat} {w w' : World} (h : RMacAt F E x D C ai ni ci ao no co w) (hb : Below w.heap.size w w') : RMacAt F E x D C ai ni ci ao no co w' := h.turn (Lo.t0 hb) fun _ _ h => h
theorem Lo.words_mac {F : Nat → Prop} {B : Nat} {x : X.St} {w : World} (h : Mac F B x w) :
 Calls Tryz.prog 13 #[.pointer (some ⟨B, 0, none⟩)] w fun e w' => ∃ g, e = .returned (.slice (some ⟨g, 0, none⟩) x.ws.length x.ws.length) ∧ Wo w' (some ⟨g, 0, none⟩) x.ws.length x.ws.length x.ws ∧ Kept w w' :=
 (words_any h).mono fun e w' ⟨g, q1, q2, q3, q4⟩ => ⟨g, q1, q3.rw, q4⟩
def X.setC (s : A.Regs) (pc : Int) (v : Value) : Array Value := #[.int .u32 (s.r 0), .int .u32 (s.r 1), .int .u32 (s.r 2), .int .u32 (s.r 3), .int .u32 (s.r 4), .int .u32 (s.r 5), .int .u32 (s.r 6), .int .u32 (s.r 7), .int .u32 (s.r 8), .int .u32 (s.r 9), .int .u32 (s.r 10), .int .u32 (s.r 11), .int .u32 (s.r 12), .int .u32 (s.r 13), .int .u32 (s.r 14), .int .u32 (s.r 15), .int .u32 s.h, .bool s.n, .bool s.z, .bool s.c, .bool s.v, .int .u32 pc, v]
structure X.Two (w0 : World) (B E : Nat) (F G : Nat → Prop) (x : X.St) (w : World) : Prop where
 p : Mac F B x w
 r : RMac G E x w
 fF : ∀ k, F k → w0.heap.size ≤ k
 fG : ∀ k, G k → w0.heap.size ≤ k
 ap : ∀ k, F k → ¬ G k
set_option maxRecDepth 100000 in
theorem rmay_r0 (k op a b c i : Int) (u : Bool) (w : World)
 (RA : Hid (∀ w, Calls Tryz.prog 77 #[.int .i64 a] w fun e w' => e = .returned (.bool false) ∧ w = w')) :
 Calls Tryz.prog 54 #[.agg #[.int .i64 k, .int .i64 op, .int .i64 a, .int .i64 b, .int .i64 c, .int .i64 i, .bool u]] w fun e w' => e = .returned (.bool false) ∧ Kept w w' := by
 go_enter Tryz.func54, Tryz.ntmps54
 go_wp2_with fail
 refine (RA.out _).mono ?_; rintro e w1 ⟨rfl, rfl⟩
 go_wp2_with fail
 go_ret
 exact ⟨rfl, (Kept.refl w).alloc _ _⟩
set_option maxRecDepth 100000 in
theorem rmay_r1 (k op a b c i : Int) (u : Bool) (w : World)
 (RA : Hid (∀ w, Calls Tryz.prog 77 #[.int .i64 a] w fun e w' => e = .returned (.bool true) ∧ w = w'))
 (RB : Hid (∀ w, Calls Tryz.prog 77 #[.int .i64 b] w fun e w' => e = .returned (.bool false) ∧ w = w')) :
 Calls Tryz.prog 54 #[.agg #[.int .i64 k, .int .i64 op, .int .i64 a, .int .i64 b, .int .i64 c, .int .i64 i, .bool u]] w fun e w' => e = .returned (.bool false) ∧ Kept w w' := by
 go_enter Tryz.func54, Tryz.ntmps54
 go_wp2_with fail
 refine (RA.out _).mono ?_; rintro e w1 ⟨rfl, rfl⟩
 go_wp2_with fail
 refine (RB.out _).mono ?_; rintro e w1 ⟨rfl, rfl⟩
 go_wp2_with fail
 go_ret
 exact ⟨rfl, (Kept.refl w).alloc _ _⟩
set_option maxRecDepth 100000 in
theorem rmay_r2 (k op a b c i : Int) (u : Bool) (w : World)
 (RA : Hid (∀ w, Calls Tryz.prog 77 #[.int .i64 a] w fun e w' => e = .returned (.bool true) ∧ w = w'))
 (RB : Hid (∀ w, Calls Tryz.prog 77 #[.int .i64 b] w fun e w' => e = .returned (.bool true) ∧ w = w'))
 (RC : Hid (∀ w, Calls Tryz.prog 77 #[.int .i64 c] w fun e w' => e = .returned (.bool false) ∧ w = w')) :
 Calls Tryz.prog 54 #[.agg #[.int .i64 k, .int .i64 op, .int .i64 a, .int .i64 b, .int .i64 c, .int .i64 i, .bool u]] w fun e w' => e = .returned (.bool false) ∧ Kept w w' := by
 go_enter Tryz.func54, Tryz.ntmps54
 go_wp2_with fail
 refine (RA.out _).mono ?_; rintro e w1 ⟨rfl, rfl⟩
 go_wp2_with fail
 refine (RB.out _).mono ?_; rintro e w1 ⟨rfl, rfl⟩
 go_wp2_with fail
 refine (RC.out _).mono ?_; rintro e w1 ⟨rfl, rfl⟩
 go_wp2_with fail
 go_ret
 exact ⟨rfl, (Kept.refl w).alloc _ _⟩
set_option maxRecDepth 100000 in
set_option maxHeartbeats 2000000 in
theorem rmay_1f (op a b c i : Int) (w : World)
 (a0 : 0 ≤ a) (a1 : a ≤ 15) (b0 : 0 ≤ b) (b1 : b ≤ 15) (c0 : 0 ≤ c) (c1 : c ≤ 15)
 (RA : Hid (∀ w, Calls Tryz.prog 77 #[.int .i64 a] w fun e w' => e = .returned (.bool true) ∧ w = w'))
 (RB : Hid (∀ w, Calls Tryz.prog 77 #[.int .i64 b] w fun e w' => e = .returned (.bool true) ∧ w = w'))
 (RC : Hid (∀ w, Calls Tryz.prog 77 #[.int .i64 c] w fun e w' => e = .returned (.bool true) ∧ w = w')) :
 Calls Tryz.prog 54 #[.agg #[.int .i64 1, .int .i64 op, .int .i64 a, .int .i64 b, .int .i64 c, .int .i64 i, .bool false]] w fun e w' => e = .returned (.bool (I.may ⟨1, op, a, b, c, i, false⟩)) ∧ Kept w w' := by
 go_enter Tryz.func54, Tryz.ntmps54
 go_wp2_with fail
 refine (RA.out _).mono ?_; rintro e w1 ⟨rfl, rfl⟩
 go_wp2_with fail
 refine (RB.out _).mono ?_; rintro e w1 ⟨rfl, rfl⟩
 go_wp2_with fail
 refine (RC.out _).mono ?_; rintro e w1 ⟨rfl, rfl⟩
 go_wp2_with fail
 all_goals go_ret
 all_goals refine r1bk ?_ (((Kept.refl w).alloc _ _).alloc _ _)
 all_goals (try simp only [bne_iff_ne, ne_eq, beq_iff_eq, bne_eq_false_iff_eq, beq_eq_false_iff_ne] at *)
 all_goals (rw [Bool.eq_iff_iff]; unfold I.may I.May; simp)
 all_goals (try omega)
set_option maxRecDepth 100000 in
set_option maxHeartbeats 2000000 in
theorem rmay_1t (op a b c i : Int) (w : World)
 (a0 : 0 ≤ a) (a1 : a ≤ 15) (b0 : 0 ≤ b) (b1 : b ≤ 15) (c0 : 0 ≤ c) (c1 : c ≤ 15)
 (RA : Hid (∀ w, Calls Tryz.prog 77 #[.int .i64 a] w fun e w' => e = .returned (.bool true) ∧ w = w'))
 (RB : Hid (∀ w, Calls Tryz.prog 77 #[.int .i64 b] w fun e w' => e = .returned (.bool true) ∧ w = w'))
 (RC : Hid (∀ w, Calls Tryz.prog 77 #[.int .i64 c] w fun e w' => e = .returned (.bool true) ∧ w = w')) :
 Calls Tryz.prog 54 #[.agg #[.int .i64 1, .int .i64 op, .int .i64 a, .int .i64 b, .int .i64 c, .int .i64 i, .bool true]] w fun e w' => e = .returned (.bool (I.may ⟨1, op, a, b, c, i, true⟩)) ∧ Kept w w' := by
 go_enter Tryz.func54, Tryz.ntmps54
 go_wp2_with fail
 refine (RA.out _).mono ?_; rintro e w1 ⟨rfl, rfl⟩
 go_wp2_with fail
 refine (RB.out _).mono ?_; rintro e w1 ⟨rfl, rfl⟩
 go_wp2_with fail
 refine (RC.out _).mono ?_; rintro e w1 ⟨rfl, rfl⟩
 go_wp2_with fail
 all_goals go_ret
 all_goals refine r1bk ?_ (((Kept.refl w).alloc _ _).alloc _ _)
 all_goals (try simp only [bne_iff_ne, ne_eq, beq_iff_eq, bne_eq_false_iff_eq, beq_eq_false_iff_ne] at *)
 all_goals (rw [Bool.eq_iff_iff]; unfold I.may I.May; simp)
 all_goals (try omega)
set_option maxRecDepth 100000 in
set_option maxHeartbeats 2000000 in
theorem rmay_2f (op a b c i : Int) (w : World)
 (a0 : 0 ≤ a) (a1 : a ≤ 15) (b0 : 0 ≤ b) (b1 : b ≤ 15) (c0 : 0 ≤ c) (c1 : c ≤ 15)
 (RA : Hid (∀ w, Calls Tryz.prog 77 #[.int .i64 a] w fun e w' => e = .returned (.bool true) ∧ w = w'))
 (RB : Hid (∀ w, Calls Tryz.prog 77 #[.int .i64 b] w fun e w' => e = .returned (.bool true) ∧ w = w'))
 (RC : Hid (∀ w, Calls Tryz.prog 77 #[.int .i64 c] w fun e w' => e = .returned (.bool true) ∧ w = w')) :
 Calls Tryz.prog 54 #[.agg #[.int .i64 2, .int .i64 op, .int .i64 a, .int .i64 b, .int .i64 c, .int .i64 i, .bool false]] w fun e w' => e = .returned (.bool (I.may ⟨2, op, a, b, c, i, false⟩)) ∧ Kept w w' := by
 go_enter Tryz.func54, Tryz.ntmps54
 go_wp2_with fail
 refine (RA.out _).mono ?_; rintro e w1 ⟨rfl, rfl⟩
 go_wp2_with fail
 refine (RB.out _).mono ?_; rintro e w1 ⟨rfl, rfl⟩
 go_wp2_with fail
 refine (RC.out _).mono ?_; rintro e w1 ⟨rfl, rfl⟩
 go_wp2_with fail
 all_goals go_ret
 all_goals refine r1bk ?_ (((Kept.refl w).alloc _ _).alloc _ _)
 all_goals (try simp only [bne_iff_ne, ne_eq, beq_iff_eq, bne_eq_false_iff_eq, beq_eq_false_iff_ne] at *)
 all_goals (rw [Bool.eq_iff_iff]; unfold I.may I.May; simp)
 all_goals (try omega)
set_option maxRecDepth 100000 in
set_option maxHeartbeats 2000000 in
theorem rmay_2t (op a b c i : Int) (w : World)
 (a0 : 0 ≤ a) (a1 : a ≤ 15) (b0 : 0 ≤ b) (b1 : b ≤ 15) (c0 : 0 ≤ c) (c1 : c ≤ 15)
 (RA : Hid (∀ w, Calls Tryz.prog 77 #[.int .i64 a] w fun e w' => e = .returned (.bool true) ∧ w = w'))
 (RB : Hid (∀ w, Calls Tryz.prog 77 #[.int .i64 b] w fun e w' => e = .returned (.bool true) ∧ w = w'))
 (RC : Hid (∀ w, Calls Tryz.prog 77 #[.int .i64 c] w fun e w' => e = .returned (.bool true) ∧ w = w')) :
 Calls Tryz.prog 54 #[.agg #[.int .i64 2, .int .i64 op, .int .i64 a, .int .i64 b, .int .i64 c, .int .i64 i, .bool true]] w fun e w' => e = .returned (.bool (I.may ⟨2, op, a, b, c, i, true⟩)) ∧ Kept w w' := by
 go_enter Tryz.func54, Tryz.ntmps54
 go_wp2_with fail
 refine (RA.out _).mono ?_; rintro e w1 ⟨rfl, rfl⟩
 go_wp2_with fail
 refine (RB.out _).mono ?_; rintro e w1 ⟨rfl, rfl⟩
 go_wp2_with fail
 refine (RC.out _).mono ?_; rintro e w1 ⟨rfl, rfl⟩
 go_wp2_with fail
 all_goals go_ret
 all_goals refine r1bk ?_ (((Kept.refl w).alloc _ _).alloc _ _)
 all_goals (try simp only [bne_iff_ne, ne_eq, beq_iff_eq, bne_eq_false_iff_eq, beq_eq_false_iff_ne] at *)
 all_goals (rw [Bool.eq_iff_iff]; unfold I.may I.May; simp)
 all_goals (try omega)
set_option maxRecDepth 100000 in
set_option maxHeartbeats 2000000 in
theorem rmay_3 (op a b c i : Int) (u : Bool) (w : World)
 (a0 : 0 ≤ a) (a1 : a ≤ 15) (b0 : 0 ≤ b) (b1 : b ≤ 15) (c0 : 0 ≤ c) (c1 : c ≤ 15)
 (RA : Hid (∀ w, Calls Tryz.prog 77 #[.int .i64 a] w fun e w' => e = .returned (.bool true) ∧ w = w'))
 (RB : Hid (∀ w, Calls Tryz.prog 77 #[.int .i64 b] w fun e w' => e = .returned (.bool true) ∧ w = w'))
 (RC : Hid (∀ w, Calls Tryz.prog 77 #[.int .i64 c] w fun e w' => e = .returned (.bool true) ∧ w = w')) :
 Calls Tryz.prog 54 #[.agg #[.int .i64 3, .int .i64 op, .int .i64 a, .int .i64 b, .int .i64 c, .int .i64 i, .bool u]] w fun e w' => e = .returned (.bool (I.may ⟨3, op, a, b, c, i, u⟩)) ∧ Kept w w' := by
 go_enter Tryz.func54, Tryz.ntmps54
 go_wp2_with fail
 refine (RA.out _).mono ?_; rintro e w1 ⟨rfl, rfl⟩
 go_wp2_with fail
 refine (RB.out _).mono ?_; rintro e w1 ⟨rfl, rfl⟩
 go_wp2_with fail
 refine (RC.out _).mono ?_; rintro e w1 ⟨rfl, rfl⟩
 go_wp2_with fail
 all_goals go_ret
 all_goals refine r1bk ?_ (((Kept.refl w).alloc _ _).alloc _ _)
 all_goals (try simp only [bne_iff_ne, ne_eq, beq_iff_eq, bne_eq_false_iff_eq, beq_eq_false_iff_ne] at *)
 all_goals (rw [Bool.eq_iff_iff]; unfold I.may I.May; simp)
 all_goals (try omega)
set_option maxRecDepth 100000 in
set_option maxHeartbeats 2000000 in
theorem rmay_4 (op a b c i : Int) (u : Bool) (w : World)
 (a0 : 0 ≤ a) (a1 : a ≤ 15) (b0 : 0 ≤ b) (b1 : b ≤ 15) (c0 : 0 ≤ c) (c1 : c ≤ 15)
 (RA : Hid (∀ w, Calls Tryz.prog 77 #[.int .i64 a] w fun e w' => e = .returned (.bool true) ∧ w = w'))
 (RB : Hid (∀ w, Calls Tryz.prog 77 #[.int .i64 b] w fun e w' => e = .returned (.bool true) ∧ w = w'))
 (RC : Hid (∀ w, Calls Tryz.prog 77 #[.int .i64 c] w fun e w' => e = .returned (.bool true) ∧ w = w')) :
 Calls Tryz.prog 54 #[.agg #[.int .i64 4, .int .i64 op, .int .i64 a, .int .i64 b, .int .i64 c, .int .i64 i, .bool u]] w fun e w' => e = .returned (.bool (I.may ⟨4, op, a, b, c, i, u⟩)) ∧ Kept w w' := by
 go_enter Tryz.func54, Tryz.ntmps54
 go_wp2_with fail
 refine (RA.out _).mono ?_; rintro e w1 ⟨rfl, rfl⟩
 go_wp2_with fail
 refine (RB.out _).mono ?_; rintro e w1 ⟨rfl, rfl⟩
 go_wp2_with fail
 refine (RC.out _).mono ?_; rintro e w1 ⟨rfl, rfl⟩
 go_wp2_with fail
 all_goals go_ret
 all_goals refine r1bk ?_ (((Kept.refl w).alloc _ _).alloc _ _)
 all_goals (try simp only [bne_iff_ne, ne_eq, beq_iff_eq, bne_eq_false_iff_eq, beq_eq_false_iff_ne] at *)
 all_goals (rw [Bool.eq_iff_iff]; unfold I.may I.May; simp)
 all_goals (try omega)
set_option maxRecDepth 100000 in
set_option maxHeartbeats 2000000 in
theorem rmay_k (k op a b c i : Int) (u : Bool) (w : World) (h1 : (k == 1) = false) (h2 : (k == 2) = false) (h3 : (k == 3) = false) (h4 : (k == 4) = false) (h5 : (k == 5) = false) (h6 : (k == 6) = false) (h7 : (k == 7) = false)
 (a0 : 0 ≤ a) (a1 : a ≤ 15) (b0 : 0 ≤ b) (b1 : b ≤ 15) (c0 : 0 ≤ c) (c1 : c ≤ 15)
 (RA : Hid (∀ w, Calls Tryz.prog 77 #[.int .i64 a] w fun e w' => e = .returned (.bool true) ∧ w = w'))
 (RB : Hid (∀ w, Calls Tryz.prog 77 #[.int .i64 b] w fun e w' => e = .returned (.bool true) ∧ w = w'))
 (RC : Hid (∀ w, Calls Tryz.prog 77 #[.int .i64 c] w fun e w' => e = .returned (.bool true) ∧ w = w')) :
 Calls Tryz.prog 54 #[.agg #[.int .i64 k, .int .i64 op, .int .i64 a, .int .i64 b, .int .i64 c, .int .i64 i, .bool u]] w fun e w' => e = .returned (.bool (I.may ⟨k, op, a, b, c, i, u⟩)) ∧ Kept w w' := by
 go_enter Tryz.func54, Tryz.ntmps54
 go_wp2_with fail
 refine (RA.out _).mono ?_; rintro e w1 ⟨rfl, rfl⟩
 go_wp2_with fail
 refine (RB.out _).mono ?_; rintro e w1 ⟨rfl, rfl⟩
 go_wp2_with fail
 refine (RC.out _).mono ?_; rintro e w1 ⟨rfl, rfl⟩
 go_wp2_with fail
 all_goals go_ret
 all_goals refine r1bk ?_ (((Kept.refl w).alloc _ _).alloc _ _)
 all_goals (try simp only [beq_eq_false_iff_ne] at *)
 all_goals (refine (decide_eq_false ?_).symm; intro hm; unfold I.May at hm; dsimp only at hm; omega)
set_option maxRecDepth 100000 in
set_option maxHeartbeats 2000000 in
theorem rmay_5f (op a b c i : Int) (w : World)
 (a0 : 0 ≤ a) (a1 : a ≤ 15) (b0 : 0 ≤ b) (b1 : b ≤ 15) (c0 : 0 ≤ c) (c1 : c ≤ 15)
 (RA : Hid (∀ w, Calls Tryz.prog 77 #[.int .i64 a] w fun e w' => e = .returned (.bool true) ∧ w = w'))
 (RB : Hid (∀ w, Calls Tryz.prog 77 #[.int .i64 b] w fun e w' => e = .returned (.bool true) ∧ w = w'))
 (RC : Hid (∀ w, Calls Tryz.prog 77 #[.int .i64 c] w fun e w' => e = .returned (.bool true) ∧ w = w')) :
 Calls Tryz.prog 54 #[.agg #[.int .i64 5, .int .i64 op, .int .i64 a, .int .i64 b, .int .i64 c, .int .i64 i, .bool false]] w fun e w' => e = .returned (.bool (I.may ⟨5, op, a, b, c, i, false⟩)) ∧ Kept w w' := by
 have HF := Lib.hid (fun w => show Calls Tryz.prog 78 #[.int .i64 i, .int .i64 20] w fun e w' => e = .returned (.bool (decide (-524288 ≤ i) && decide (i < 524288))) ∧ w = w' from I.fits20 i ▸ rfits_any i 20 w)
 go_enter Tryz.func54, Tryz.ntmps54
 go_wp2_with fail
 refine (RA.out _).mono ?_; rintro e w1 ⟨rfl, rfl⟩
 go_wp2_with fail
 refine (RB.out _).mono ?_; rintro e w1 ⟨rfl, rfl⟩
 go_wp2_with fail
 refine (RC.out _).mono ?_; rintro e w1 ⟨rfl, rfl⟩
 go_wp2_with fail
 all_goals try (refine (HF.out _).mono ?_; rintro e w1 ⟨rfl, rfl⟩; go_wp2_with fail)
 all_goals go_ret
 all_goals refine r1bk ?_ (((Kept.refl w).alloc _ _).alloc _ _)
 all_goals (try simp only [bne_iff_ne, ne_eq, beq_iff_eq, bne_eq_false_iff_eq, beq_eq_false_iff_ne] at *)
 all_goals (rw [Bool.eq_iff_iff]; unfold I.may I.May; simp)
 all_goals (try omega)
set_option maxRecDepth 100000 in
set_option maxHeartbeats 2000000 in
theorem rmay_5t (op a b c i : Int) (w : World)
 (a0 : 0 ≤ a) (a1 : a ≤ 15) (b0 : 0 ≤ b) (b1 : b ≤ 15) (c0 : 0 ≤ c) (c1 : c ≤ 15)
 (RA : Hid (∀ w, Calls Tryz.prog 77 #[.int .i64 a] w fun e w' => e = .returned (.bool true) ∧ w = w'))
 (RB : Hid (∀ w, Calls Tryz.prog 77 #[.int .i64 b] w fun e w' => e = .returned (.bool true) ∧ w = w'))
 (RC : Hid (∀ w, Calls Tryz.prog 77 #[.int .i64 c] w fun e w' => e = .returned (.bool true) ∧ w = w')) :
 Calls Tryz.prog 54 #[.agg #[.int .i64 5, .int .i64 op, .int .i64 a, .int .i64 b, .int .i64 c, .int .i64 i, .bool true]] w fun e w' => e = .returned (.bool (I.may ⟨5, op, a, b, c, i, true⟩)) ∧ Kept w w' := by
 have HF := Lib.hid (fun w => show Calls Tryz.prog 78 #[.int .i64 i, .int .i64 20] w fun e w' => e = .returned (.bool (decide (-524288 ≤ i) && decide (i < 524288))) ∧ w = w' from I.fits20 i ▸ rfits_any i 20 w)
 go_enter Tryz.func54, Tryz.ntmps54
 go_wp2_with fail
 refine (RA.out _).mono ?_; rintro e w1 ⟨rfl, rfl⟩
 go_wp2_with fail
 refine (RB.out _).mono ?_; rintro e w1 ⟨rfl, rfl⟩
 go_wp2_with fail
 refine (RC.out _).mono ?_; rintro e w1 ⟨rfl, rfl⟩
 go_wp2_with fail
 all_goals try (refine (HF.out _).mono ?_; rintro e w1 ⟨rfl, rfl⟩; go_wp2_with fail)
 all_goals go_ret
 all_goals refine r1bk ?_ (((Kept.refl w).alloc _ _).alloc _ _)
 all_goals (try simp only [bne_iff_ne, ne_eq, beq_iff_eq, bne_eq_false_iff_eq, beq_eq_false_iff_ne] at *)
 all_goals (rw [Bool.eq_iff_iff]; unfold I.may I.May; simp)
 all_goals (try omega)
set_option maxRecDepth 100000 in
set_option maxHeartbeats 2000000 in
theorem rmay_6 (op a b c i : Int) (u : Bool) (w : World)
 (a0 : 0 ≤ a) (a1 : a ≤ 15) (b0 : 0 ≤ b) (b1 : b ≤ 15) (c0 : 0 ≤ c) (c1 : c ≤ 15)
 (RA : Hid (∀ w, Calls Tryz.prog 77 #[.int .i64 a] w fun e w' => e = .returned (.bool true) ∧ w = w'))
 (RB : Hid (∀ w, Calls Tryz.prog 77 #[.int .i64 b] w fun e w' => e = .returned (.bool true) ∧ w = w'))
 (RC : Hid (∀ w, Calls Tryz.prog 77 #[.int .i64 c] w fun e w' => e = .returned (.bool true) ∧ w = w')) :
 Calls Tryz.prog 54 #[.agg #[.int .i64 6, .int .i64 op, .int .i64 a, .int .i64 b, .int .i64 c, .int .i64 i, .bool u]] w fun e w' => e = .returned (.bool (I.may ⟨6, op, a, b, c, i, u⟩)) ∧ Kept w w' := by
 have RO := Lib.hid (fun w => show Calls Tryz.prog 77 #[.int .i64 op] w fun e w' => e = .returned (.bool (decide (0 ≤ op) && decide (op ≤ 15))) ∧ w = w' from rreg_any op w)
 go_enter Tryz.func54, Tryz.ntmps54
 go_wp2_with fail
 refine (RA.out _).mono ?_; rintro e w1 ⟨rfl, rfl⟩
 go_wp2_with fail
 refine (RB.out _).mono ?_; rintro e w1 ⟨rfl, rfl⟩
 go_wp2_with fail
 refine (RC.out _).mono ?_; rintro e w1 ⟨rfl, rfl⟩
 go_wp2_with fail
 all_goals try (first | (refine (RO.out _).mono ?_; rintro e w1 ⟨rfl, rfl⟩; go_wp2_with fail))
 all_goals go_ret
 all_goals refine r1bk ?_ (((Kept.refl w).alloc _ _).alloc _ _)
 all_goals (try simp only [bne_iff_ne, ne_eq, beq_iff_eq, bne_eq_false_iff_eq, beq_eq_false_iff_ne] at *)
 all_goals (rw [Bool.eq_iff_iff]; unfold I.may I.May; simp)
 all_goals (try omega)
set_option maxRecDepth 100000 in
set_option maxHeartbeats 2000000 in
theorem rmay_7 (op a b c i : Int) (u : Bool) (w : World)
 (a0 : 0 ≤ a) (a1 : a ≤ 15) (b0 : 0 ≤ b) (b1 : b ≤ 15) (c0 : 0 ≤ c) (c1 : c ≤ 15)
 (RA : Hid (∀ w, Calls Tryz.prog 77 #[.int .i64 a] w fun e w' => e = .returned (.bool true) ∧ w = w'))
 (RB : Hid (∀ w, Calls Tryz.prog 77 #[.int .i64 b] w fun e w' => e = .returned (.bool true) ∧ w = w'))
 (RC : Hid (∀ w, Calls Tryz.prog 77 #[.int .i64 c] w fun e w' => e = .returned (.bool true) ∧ w = w')) :
 Calls Tryz.prog 54 #[.agg #[.int .i64 7, .int .i64 op, .int .i64 a, .int .i64 b, .int .i64 c, .int .i64 i, .bool u]] w fun e w' => e = .returned (.bool (I.may ⟨7, op, a, b, c, i, u⟩)) ∧ Kept w w' := by
 have RO := Lib.hid (fun w => show Calls Tryz.prog 77 #[.int .i64 op] w fun e w' => e = .returned (.bool (decide (0 ≤ op) && decide (op ≤ 15))) ∧ w = w' from rreg_any op w)
 have HF := Lib.hid (fun w => show Calls Tryz.prog 78 #[.int .i64 i, .int .i64 24] w fun e w' => e = .returned (.bool (decide (-8388608 ≤ i) && decide (i < 8388608))) ∧ w = w' from I.fits24 i ▸ rfits_any i 24 w)
 go_enter Tryz.func54, Tryz.ntmps54
 go_wp2_with fail
 refine (RA.out _).mono ?_; rintro e w1 ⟨rfl, rfl⟩
 go_wp2_with fail
 refine (RB.out _).mono ?_; rintro e w1 ⟨rfl, rfl⟩
 go_wp2_with fail
 refine (RC.out _).mono ?_; rintro e w1 ⟨rfl, rfl⟩
 go_wp2_with fail
 all_goals try (first | (refine (RO.out _).mono ?_; rintro e w1 ⟨rfl, rfl⟩; go_wp2_with fail))
 all_goals try (refine (HF.out _).mono ?_; rintro e w1 ⟨rfl, rfl⟩; go_wp2_with fail)
 all_goals go_ret
 all_goals refine r1bk ?_ (((Kept.refl w).alloc _ _).alloc _ _)
 all_goals (try simp only [bne_iff_ne, ne_eq, beq_iff_eq, bne_eq_false_iff_eq, beq_eq_false_iff_ne] at *)
 all_goals (rw [Bool.eq_iff_iff]; unfold I.may I.May; simp)
 all_goals (try omega)
namespace I
end I
namespace I
theorem and_mask (x : Int) (hx : U32 x) (n : Nat) (M : Int) (hn : n ≤ 32) (hM : M = ((2 ^ n - 1 : Nat) : Int)) : bits .and .u32 x M = x % ((2 ^ n : Nat) : Int) := by
 obtain ⟨W, rfl⟩ := Int.eq_ofNat_of_zero_le hx.1
 have hW : W < 4294967296 := by have := hx.2; omega
 have hp : 2 ^ n ≤ 4294967296 := F.pow_le32 n hn
 have hq : 1 ≤ 2 ^ n := Nat.one_le_two_pow
 subst hM
 rw [u32_and_nat _ _ hW (by omega), Nat.and_two_pow_sub_one_eq_mod]
 omega
end I
theorem rmay_any (k op a b c i : Int) (u : Bool) (w : World) :
 Calls Tryz.prog 54 #[.agg #[.int .i64 k, .int .i64 op, .int .i64 a, .int .i64 b, .int .i64 c, .int .i64 i, .bool u]] w fun e w' => e = .returned (.bool (I.may ⟨k, op, a, b, c, i, u⟩)) ∧ Kept w w' := by
 have RA := rreg_any a
 have RB := rreg_any b
 have RC := rreg_any c
 by_cases ha : 0 ≤ a ∧ a ≤ 15
 · rw [show I.reg a = true by unfold I.reg; rw [decide_eq_true ha.1, decide_eq_true ha.2]; rfl] at RA
   by_cases hb : 0 ≤ b ∧ b ≤ 15
   · rw [show I.reg b = true by unfold I.reg; rw [decide_eq_true hb.1, decide_eq_true hb.2]; rfl] at RB
     by_cases hc : 0 ≤ c ∧ c ≤ 15
     · rw [show I.reg c = true by unfold I.reg; rw [decide_eq_true hc.1, decide_eq_true hc.2]; rfl] at RC
       rcases I.kinds k with rfl | rfl | rfl | rfl | rfl | rfl | rfl | ⟨h1, h2, h3, h4, h5, h6, h7⟩
       · cases u
         · exact rmay_1f op a b c i w ha.1 ha.2 hb.1 hb.2 hc.1 hc.2 (Lib.hid RA) (Lib.hid RB) (Lib.hid RC)
         · exact rmay_1t op a b c i w ha.1 ha.2 hb.1 hb.2 hc.1 hc.2 (Lib.hid RA) (Lib.hid RB) (Lib.hid RC)
       · cases u
         · exact rmay_2f op a b c i w ha.1 ha.2 hb.1 hb.2 hc.1 hc.2 (Lib.hid RA) (Lib.hid RB) (Lib.hid RC)
         · exact rmay_2t op a b c i w ha.1 ha.2 hb.1 hb.2 hc.1 hc.2 (Lib.hid RA) (Lib.hid RB) (Lib.hid RC)
       · exact rmay_3 op a b c i u w ha.1 ha.2 hb.1 hb.2 hc.1 hc.2 (Lib.hid RA) (Lib.hid RB) (Lib.hid RC)
       · exact rmay_4 op a b c i u w ha.1 ha.2 hb.1 hb.2 hc.1 hc.2 (Lib.hid RA) (Lib.hid RB) (Lib.hid RC)
       · cases u
         · exact rmay_5f op a b c i w ha.1 ha.2 hb.1 hb.2 hc.1 hc.2 (Lib.hid RA) (Lib.hid RB) (Lib.hid RC)
         · exact rmay_5t op a b c i w ha.1 ha.2 hb.1 hb.2 hc.1 hc.2 (Lib.hid RA) (Lib.hid RB) (Lib.hid RC)
       · exact rmay_6 op a b c i u w ha.1 ha.2 hb.1 hb.2 hc.1 hc.2 (Lib.hid RA) (Lib.hid RB) (Lib.hid RC)
       · exact rmay_7 op a b c i u w ha.1 ha.2 hb.1 hb.2 hc.1 hc.2 (Lib.hid RA) (Lib.hid RB) (Lib.hid RC)
       · exact rmay_k k op a b c i u w h1 h2 h3 h4 h5 h6 h7 ha.1 ha.2 hb.1 hb.2 hc.1 hc.2 (Lib.hid RA) (Lib.hid RB) (Lib.hid RC)
     · rw [show I.reg c = false by unfold I.reg; rw [Bool.and_eq_false_iff, decide_eq_false_iff_not, decide_eq_false_iff_not]; omega] at RC
       rw [show I.may ⟨k, op, a, b, c, i, u⟩ = false from decide_eq_false (fun h => hc ⟨h.1.2.2.2.2.1, h.1.2.2.2.2.2⟩)]
       exact rmay_r2 k op a b c i u w (Lib.hid RA) (Lib.hid RB) (Lib.hid RC)
   · rw [show I.reg b = false by unfold I.reg; rw [Bool.and_eq_false_iff, decide_eq_false_iff_not, decide_eq_false_iff_not]; omega] at RB
     rw [show I.may ⟨k, op, a, b, c, i, u⟩ = false from decide_eq_false (fun h => hb ⟨h.1.2.2.1, h.1.2.2.2.1⟩)]
     exact rmay_r1 k op a b c i u w (Lib.hid RA) (Lib.hid RB)
 · rw [show I.reg a = false by unfold I.reg; rw [Bool.and_eq_false_iff, decide_eq_false_iff_not, decide_eq_false_iff_not]; omega] at RA
   rw [show I.may ⟨k, op, a, b, c, i, u⟩ = false from decide_eq_false (fun h => ha ⟨h.1.1, h.1.2.1⟩)]
   exact rmay_r0 k op a b c i u w (Lib.hid RA)
set_option maxRecDepth 100000 in
set_option maxHeartbeats 2000000 in
theorem renc_1 (op a b c i B r : Int) (u : Bool) (w : World) (B0 : 0 ≤ B) (B1 : B ≤ 1)
 (a0 : 0 ≤ a) (a1 : a ≤ 15) (b0 : 0 ≤ b) (b1 : b ≤ 15) (c0 : 0 ≤ c) (c1 : c ≤ 15) (o0 : 0 ≤ op) (o1 : op ≤ 15)
 (HM : Hid (∀ w, Calls Tryz.prog 54 #[.agg #[.int .i64 1, .int .i64 op, .int .i64 a, .int .i64 b, .int .i64 c, .int .i64 i, .bool u]] w fun e w' => e = .returned (.bool true) ∧ Kept w w'))
 (HO : Hid (∀ w, Calls Tryz.prog 75 #[.bool u] w fun e w' => e = .returned (.int .u32 B) ∧ w = w')) (HR : Hid (bits .or .u32 (bits .or .u32 (bits .or .u32 (bits .or .u32 (B * 536870912) (a * 16777216)) (b * 1048576)) (op * 65536)) (c) = r)) :
 Calls Tryz.prog 49 #[.agg #[.int .i64 1, .int .i64 op, .int .i64 a, .int .i64 b, .int .i64 c, .int .i64 i, .bool u]] w fun e w' => e = .returned (.tuple #[.int .u32 r, .int .i64 0]) ∧ Kept w w' := by
 have X0 := Lib.hid (Box.new 1 op a b c i u w)
 have H0 := Lib.hid (show Kept w (w.alloc (.cells #[.int .i64 1, .int .i64 op, .int .i64 a, .int .i64 b, .int .i64 c, .int .i64 i, .bool u] 76)) from (Kept.refl w).alloc _ _)
 go_enter Tryz.func49, Tryz.ntmps49
 go_wp2_with fail
 refine (HM.out _).mono ?_; rintro e w1 ⟨rfl, hK1⟩
 obtain ⟨j0, j1, j2, j3, j4, j5, j6⟩ := (X0.out.kept hK1).cells
 replace H0 := Lib.hid (H0.out.trans hK1)
 replace X0 := Lib.hid (X0.out.kept hK1)
 clear hK1
 go_wp2_with fail
 refine (HO.out _).mono ?_; rintro e w2 ⟨rfl, rfl⟩
 go_wp2_with fail
 have hR := HR.out
 simp only [hR]
 exact bodyPost_ret (v := .tuple #[.int .u32 r, .int .i64 0]) (by simp [results, Tryz.results49, go_sem]) rfl ⟨rfl, H0.out⟩
set_option maxRecDepth 100000 in
set_option maxHeartbeats 2000000 in
theorem renc_2 (op a b c i B S r : Int) (u : Bool) (w : World) (B0 : 0 ≤ B) (B1 : B ≤ 1)
 (a0 : 0 ≤ a) (a1 : a ≤ 15) (b0 : 0 ≤ b) (b1 : b ≤ 15) (c0 : 0 ≤ c) (c1 : c ≤ 15) (o0 : 0 ≤ op) (o1 : op ≤ 15)
 (HM : Hid (∀ w, Calls Tryz.prog 54 #[.agg #[.int .i64 2, .int .i64 op, .int .i64 a, .int .i64 b, .int .i64 c, .int .i64 i, .bool u]] w fun e w' => e = .returned (.bool true) ∧ Kept w w'))
 (HO : Hid (∀ w, Calls Tryz.prog 75 #[.bool u] w fun e w' => e = .returned (.int .u32 B) ∧ w = w')) (HR : Hid (bits .or .u32 (bits .or .u32 (bits .or .u32 (bits .or .u32 (bits .or .u32 (bits .or .u32 (1073741824) (IntKind.u32.wrap (B * 536870912))) (IntKind.u32.wrap (S * 268435456))) (a * 16777216)) (b * 1048576)) (op * 65536)) ((IntKind.u32.wrap i).tmod 65536) = r)) (HS : Hid (∀ w, Calls Tryz.prog 75 #[.bool (decide (i < 0))] w fun e w' => e = .returned (.int .u32 S) ∧ w = w')) (S0 : 0 ≤ S) (S1 : S ≤ 1) :
 Calls Tryz.prog 49 #[.agg #[.int .i64 2, .int .i64 op, .int .i64 a, .int .i64 b, .int .i64 c, .int .i64 i, .bool u]] w fun e w' => e = .returned (.tuple #[.int .u32 r, .int .i64 0]) ∧ Kept w w' := by
 have X0 := Lib.hid (Box.new 2 op a b c i u w)
 have H0 := Lib.hid (show Kept w (w.alloc (.cells #[.int .i64 2, .int .i64 op, .int .i64 a, .int .i64 b, .int .i64 c, .int .i64 i, .bool u] 76)) from (Kept.refl w).alloc _ _)
 go_enter Tryz.func49, Tryz.ntmps49
 go_wp2_with fail
 refine (HM.out _).mono ?_; rintro e w1 ⟨rfl, hK1⟩
 obtain ⟨j0, j1, j2, j3, j4, j5, j6⟩ := (X0.out.kept hK1).cells
 replace H0 := Lib.hid (H0.out.trans hK1)
 replace X0 := Lib.hid (X0.out.kept hK1)
 clear hK1
 go_wp2_with fail
 refine (HO.out _).mono ?_; rintro e w2 ⟨rfl, rfl⟩
 go_wp2_with fail
 clear j0 j1 j2 j3 j4 j5 j6
 have hK5 := (Kept.refl w1).drew
 refine wp_region_held_drew (S := fun w' => w'.cell? ⟨w.heap.size, 0, none⟩ = some (.int .i64 2) ∧ w'.cell? ⟨w.heap.size, 1, none⟩ = some (.int .i64 op) ∧ w'.cell? ⟨w.heap.size, 2, none⟩ = some (.int .i64 a) ∧ w'.cell? ⟨w.heap.size, 3, none⟩ = some (.int .i64 b) ∧ w'.cell? ⟨w.heap.size, 4, none⟩ = some (.int .i64 c) ∧ w'.cell? ⟨w.heap.size, 5, none⟩ = some (.int .i64 i) ∧ w'.cell? ⟨w.heap.size, 6, none⟩ = some (.bool u)) (by kernel_rfl) ?_ (fun hHeld => ?_)
 · exact (X0.out.kept hK5).cells
 refine tk 0 _ (v := ?_) hHeld ?_ (tk 1 _ (v := ?_) hHeld ?_ (tk 2 _ (v := ?_) hHeld ?_ (tk 3 _ (v := ?_) hHeld ?_ (tk 4 _ (v := ?_) hHeld ?_ (tk 5 _ (v := ?_) hHeld ?_ (tk 9 _ (v := ?_) hHeld ?_ (tk 11 _ (v := ?_) hHeld ?_ (tk 13 _ (v := ?_) hHeld ?_ (tk 15 _ (v := ?_) hHeld ?_ (tk 16 _ (v := ?_) hHeld ?_ (tk 17 _ (v := ?_) hHeld ?_ (tk 18 _ (v := ?_) hHeld ?_ ?_))))))))))))
 all_goals try (intro w hSw; (try dsimp only at hSw); go_simp; with_reducible rfl)
 try simp only [Act.put, pq]
 refine wpAnyH_ready (rs := [6]) (by kernel_rfl) (by simp) ?_
 refine AllReadyH.cons (o := _) rfl (fun K hK => ?_) AllReadyH.nil
 go_simp
 go_at_call 75
 refine (HS.out _).mono ?_
 rintro e w9 ⟨rfl, rfl⟩
 clear hHeld
 refine hK.out _ _ ?_ (fun hHeld => ?_)
 · exact (X0.out.kept hK5).cells
 clear hK K
 try simp only [Act.put, pq]
 refine tk 7 _ (v := ?_) hHeld ?_ (tk 8 _ (v := ?_) hHeld ?_ (tk 10 _ (v := ?_) hHeld ?_ (tk 12 _ (v := ?_) hHeld ?_ (tk 14 _ (v := ?_) hHeld ?_ (tk 19 _ (v := ?_) hHeld ?_ (tk 20 _ (v := ?_) hHeld ?_ (tk 21 _ (v := ?_) hHeld ?_ ?_)))))))
 all_goals try (intro w hSw; (try dsimp only at hSw); go_simp; with_reducible rfl)
 try simp only [Act.put, pq]
 refine wpAnyH_done (by kernel_rfl) ?_ _
 go_wp2_with fail
 have hR := HR.out
 simp only [hR]
 exact bodyPost_ret (v := .tuple #[.int .u32 r, .int .i64 0]) (by simp [results, Tryz.results49, go_sem]) rfl ⟨rfl, H0.out.trans hK5⟩
set_option maxRecDepth 100000 in
set_option maxHeartbeats 2000000 in
theorem renc_3 (op a b c i B r : Int) (u : Bool) (w : World) (B0 : 0 ≤ B) (B1 : B ≤ 1)
 (a0 : 0 ≤ a) (a1 : a ≤ 15) (b0 : 0 ≤ b) (b1 : b ≤ 15) (c0 : 0 ≤ c) (c1 : c ≤ 15) (o0 : 0 ≤ op) (o1 : op ≤ 15)
 (HM : Hid (∀ w, Calls Tryz.prog 54 #[.agg #[.int .i64 3, .int .i64 op, .int .i64 a, .int .i64 b, .int .i64 c, .int .i64 i, .bool u]] w fun e w' => e = .returned (.bool true) ∧ Kept w w'))
 (HO : Hid (∀ w, Calls Tryz.prog 75 #[.bool u] w fun e w' => e = .returned (.int .u32 B) ∧ w = w')) (HR : Hid (bits .or .u32 (536870912) (a * 16777216) = r)) :
 Calls Tryz.prog 49 #[.agg #[.int .i64 3, .int .i64 op, .int .i64 a, .int .i64 b, .int .i64 c, .int .i64 i, .bool u]] w fun e w' => e = .returned (.tuple #[.int .u32 r, .int .i64 0]) ∧ Kept w w' := by
 have X0 := Lib.hid (Box.new 3 op a b c i u w)
 have H0 := Lib.hid (show Kept w (w.alloc (.cells #[.int .i64 3, .int .i64 op, .int .i64 a, .int .i64 b, .int .i64 c, .int .i64 i, .bool u] 76)) from (Kept.refl w).alloc _ _)
 go_enter Tryz.func49, Tryz.ntmps49
 go_wp2_with fail
 refine (HM.out _).mono ?_; rintro e w1 ⟨rfl, hK1⟩
 obtain ⟨j0, j1, j2, j3, j4, j5, j6⟩ := (X0.out.kept hK1).cells
 replace H0 := Lib.hid (H0.out.trans hK1)
 replace X0 := Lib.hid (X0.out.kept hK1)
 clear hK1
 go_wp2_with fail
 refine (HO.out _).mono ?_; rintro e w2 ⟨rfl, rfl⟩
 go_wp2_with fail
 have hR := HR.out
 simp only [hR]
 exact bodyPost_ret (v := .tuple #[.int .u32 r, .int .i64 0]) (by simp [results, Tryz.results49, go_sem]) rfl ⟨rfl, H0.out⟩
set_option maxRecDepth 100000 in
set_option maxHeartbeats 2000000 in
theorem renc_4 (op a b c i B r : Int) (u : Bool) (w : World) (B0 : 0 ≤ B) (B1 : B ≤ 1)
 (a0 : 0 ≤ a) (a1 : a ≤ 15) (b0 : 0 ≤ b) (b1 : b ≤ 15) (c0 : 0 ≤ c) (c1 : c ≤ 15) (o0 : 0 ≤ op) (o1 : op ≤ 15)
 (HM : Hid (∀ w, Calls Tryz.prog 54 #[.agg #[.int .i64 4, .int .i64 op, .int .i64 a, .int .i64 b, .int .i64 c, .int .i64 i, .bool u]] w fun e w' => e = .returned (.bool true) ∧ Kept w w'))
 (HO : Hid (∀ w, Calls Tryz.prog 75 #[.bool u] w fun e w' => e = .returned (.int .u32 B) ∧ w = w')) (HR : Hid (bits .or .u32 (805306368) (a * 16777216) = r)) :
 Calls Tryz.prog 49 #[.agg #[.int .i64 4, .int .i64 op, .int .i64 a, .int .i64 b, .int .i64 c, .int .i64 i, .bool u]] w fun e w' => e = .returned (.tuple #[.int .u32 r, .int .i64 0]) ∧ Kept w w' := by
 have X0 := Lib.hid (Box.new 4 op a b c i u w)
 have H0 := Lib.hid (show Kept w (w.alloc (.cells #[.int .i64 4, .int .i64 op, .int .i64 a, .int .i64 b, .int .i64 c, .int .i64 i, .bool u] 76)) from (Kept.refl w).alloc _ _)
 go_enter Tryz.func49, Tryz.ntmps49
 go_wp2_with fail
 refine (HM.out _).mono ?_; rintro e w1 ⟨rfl, hK1⟩
 obtain ⟨j0, j1, j2, j3, j4, j5, j6⟩ := (X0.out.kept hK1).cells
 replace H0 := Lib.hid (H0.out.trans hK1)
 replace X0 := Lib.hid (X0.out.kept hK1)
 clear hK1
 go_wp2_with fail
 refine (HO.out _).mono ?_; rintro e w2 ⟨rfl, rfl⟩
 go_wp2_with fail
 have hR := HR.out
 simp only [hR]
 exact bodyPost_ret (v := .tuple #[.int .u32 r, .int .i64 0]) (by simp [results, Tryz.results49, go_sem]) rfl ⟨rfl, H0.out⟩
set_option maxRecDepth 100000 in
set_option maxHeartbeats 2000000 in
theorem renc_5 (op a b c i B S T r : Int) (u : Bool) (w : World) (B0 : 0 ≤ B) (B1 : B ≤ 1)
 (a0 : 0 ≤ a) (a1 : a ≤ 15) (b0 : 0 ≤ b) (b1 : b ≤ 15) (c0 : 0 ≤ c) (c1 : c ≤ 15) (o0 : 0 ≤ op) (o1 : op ≤ 15)
 (HM : Hid (∀ w, Calls Tryz.prog 54 #[.agg #[.int .i64 5, .int .i64 op, .int .i64 a, .int .i64 b, .int .i64 c, .int .i64 i, .bool u]] w fun e w' => e = .returned (.bool true) ∧ Kept w w'))
 (HO : Hid (∀ w, Calls Tryz.prog 75 #[.bool u] w fun e w' => e = .returned (.int .u32 B) ∧ w = w')) (HR : Hid (bits .or .u32 (bits .or .u32 (bits .or .u32 (bits .or .u32 (bits .or .u32 (2147483648) (IntKind.u32.wrap (S * 536870912))) (IntKind.u32.wrap (T * 268435456))) (a * 16777216)) (b * 1048576)) ((IntKind.u32.wrap i).tmod 1048576) = r)) (HS : Hid (∀ w, Calls Tryz.prog 75 #[.bool (decide (2 ≤ op))] w fun e w' => e = .returned (.int .u32 S) ∧ w = w')) (S0 : 0 ≤ S) (S1 : S ≤ 1) (HT : Hid (∀ w, Calls Tryz.prog 75 #[.bool (op.tmod 2 == 1)] w fun e w' => e = .returned (.int .u32 T) ∧ w = w')) (T0 : 0 ≤ T) (T1 : T ≤ 1) :
 Calls Tryz.prog 49 #[.agg #[.int .i64 5, .int .i64 op, .int .i64 a, .int .i64 b, .int .i64 c, .int .i64 i, .bool u]] w fun e w' => e = .returned (.tuple #[.int .u32 r, .int .i64 0]) ∧ Kept w w' := by
 have X0 := Lib.hid (Box.new 5 op a b c i u w)
 have H0 := Lib.hid (show Kept w (w.alloc (.cells #[.int .i64 5, .int .i64 op, .int .i64 a, .int .i64 b, .int .i64 c, .int .i64 i, .bool u] 76)) from (Kept.refl w).alloc _ _)
 go_enter Tryz.func49, Tryz.ntmps49
 go_wp2_with fail
 refine (HM.out _).mono ?_; rintro e w1 ⟨rfl, hK1⟩
 obtain ⟨j0, j1, j2, j3, j4, j5, j6⟩ := (X0.out.kept hK1).cells
 replace H0 := Lib.hid (H0.out.trans hK1)
 replace X0 := Lib.hid (X0.out.kept hK1)
 clear hK1
 go_wp2_with fail
 refine (HO.out _).mono ?_; rintro e w2 ⟨rfl, rfl⟩
 go_wp2_with fail
 clear j0 j1 j2 j3 j4 j5 j6
 have hK5 := (Kept.refl w1).drew
 refine wp_region_held_drew (S := fun w' => w'.cell? ⟨w.heap.size, 0, none⟩ = some (.int .i64 5) ∧ w'.cell? ⟨w.heap.size, 1, none⟩ = some (.int .i64 op) ∧ w'.cell? ⟨w.heap.size, 2, none⟩ = some (.int .i64 a) ∧ w'.cell? ⟨w.heap.size, 3, none⟩ = some (.int .i64 b) ∧ w'.cell? ⟨w.heap.size, 4, none⟩ = some (.int .i64 c) ∧ w'.cell? ⟨w.heap.size, 5, none⟩ = some (.int .i64 i) ∧ w'.cell? ⟨w.heap.size, 6, none⟩ = some (.bool u)) (by kernel_rfl) ?_ (fun hHeld => ?_)
 · exact (X0.out.kept hK5).cells
 refine tk 0 _ (v := ?_) hHeld ?_ (tk 1 _ (v := ?_) hHeld ?_ (tk 2 _ (v := ?_) hHeld ?_ (tk 6 _ (v := ?_) hHeld ?_ (tk 7 _ (v := ?_) hHeld ?_ (tk 8 _ (v := ?_) hHeld ?_ (tk 9 _ (v := ?_) hHeld ?_ (tk 13 _ (v := ?_) hHeld ?_ (tk 15 _ (v := ?_) hHeld ?_ (tk 17 _ (v := ?_) hHeld ?_ (tk 18 _ (v := ?_) hHeld ?_ (tk 19 _ (v := ?_) hHeld ?_ (tk 20 _ (v := ?_) hHeld ?_ ?_))))))))))))
 all_goals try (intro w hSw; (try dsimp only at hSw); go_simp; with_reducible rfl)
 try simp only [Act.put, pq]
 refine wpAnyH_ready (rs := [3]) (by kernel_rfl) (by simp) ?_
 refine AllReadyH.cons (o := _) rfl (fun K hK => ?_) AllReadyH.nil
 go_simp
 go_at_call 75
 refine (HS.out _).mono ?_
 rintro e w9 ⟨rfl, rfl⟩
 clear hHeld
 refine hK.out _ _ ?_ (fun hHeld => ?_)
 · exact (X0.out.kept hK5).cells
 clear hK K
 try simp only [Act.put, pq]
 refine tk 4 _ (v := ?_) hHeld ?_ (tk 5 _ (v := ?_) hHeld ?_ ?_)
 all_goals try (intro w hSw; (try dsimp only at hSw); go_simp; with_reducible rfl)
 try simp only [Act.put, pq]
 refine wpAnyH_ready (rs := [10]) (by kernel_rfl) (by simp) ?_
 refine AllReadyH.cons (o := _) rfl (fun K hK => ?_) AllReadyH.nil
 go_simp
 go_at_call 75
 refine (HT.out _).mono ?_
 rintro e w9 ⟨rfl, rfl⟩
 clear hHeld
 refine hK.out _ _ ?_ (fun hHeld => ?_)
 · exact (X0.out.kept hK5).cells
 clear hK K
 try simp only [Act.put, pq]
 refine tk 11 _ (v := ?_) hHeld ?_ (tk 12 _ (v := ?_) hHeld ?_ (tk 14 _ (v := ?_) hHeld ?_ (tk 16 _ (v := ?_) hHeld ?_ (tk 21 _ (v := ?_) hHeld ?_ (tk 22 _ (v := ?_) hHeld ?_ (tk 23 _ (v := ?_) hHeld ?_ ?_))))))
 all_goals try (intro w hSw; (try dsimp only at hSw); go_simp; with_reducible rfl)
 try simp only [Act.put, pq]
 refine wpAnyH_done (by kernel_rfl) ?_ _
 go_wp2_with fail
 have hR := HR.out
 simp only [hR]
 exact bodyPost_ret (v := .tuple #[.int .u32 r, .int .i64 0]) (by simp [results, Tryz.results49, go_sem]) rfl ⟨rfl, H0.out.trans hK5⟩
set_option maxRecDepth 100000 in
set_option maxHeartbeats 2000000 in
theorem renc_6 (op a b c i B r : Int) (u : Bool) (w : World) (B0 : 0 ≤ B) (B1 : B ≤ 1)
 (a0 : 0 ≤ a) (a1 : a ≤ 15) (b0 : 0 ≤ b) (b1 : b ≤ 15) (c0 : 0 ≤ c) (c1 : c ≤ 15) (o0 : 0 ≤ op) (o1 : op ≤ 15)
 (HM : Hid (∀ w, Calls Tryz.prog 54 #[.agg #[.int .i64 6, .int .i64 op, .int .i64 a, .int .i64 b, .int .i64 c, .int .i64 i, .bool u]] w fun e w' => e = .returned (.bool true) ∧ Kept w w'))
 (HO : Hid (∀ w, Calls Tryz.prog 75 #[.bool u] w fun e w' => e = .returned (.int .u32 B) ∧ w = w')) (HR : Hid (bits .or .u32 (bits .or .u32 (bits .or .u32 (3221225472) (B * 268435456)) (op * 16777216)) (c) = r)) :
 Calls Tryz.prog 49 #[.agg #[.int .i64 6, .int .i64 op, .int .i64 a, .int .i64 b, .int .i64 c, .int .i64 i, .bool u]] w fun e w' => e = .returned (.tuple #[.int .u32 r, .int .i64 0]) ∧ Kept w w' := by
 have X0 := Lib.hid (Box.new 6 op a b c i u w)
 have H0 := Lib.hid (show Kept w (w.alloc (.cells #[.int .i64 6, .int .i64 op, .int .i64 a, .int .i64 b, .int .i64 c, .int .i64 i, .bool u] 76)) from (Kept.refl w).alloc _ _)
 go_enter Tryz.func49, Tryz.ntmps49
 go_wp2_with fail
 refine (HM.out _).mono ?_; rintro e w1 ⟨rfl, hK1⟩
 obtain ⟨j0, j1, j2, j3, j4, j5, j6⟩ := (X0.out.kept hK1).cells
 replace H0 := Lib.hid (H0.out.trans hK1)
 replace X0 := Lib.hid (X0.out.kept hK1)
 clear hK1
 go_wp2_with fail
 refine (HO.out _).mono ?_; rintro e w2 ⟨rfl, rfl⟩
 go_wp2_with fail
 have hR := HR.out
 simp only [hR]
 exact bodyPost_ret (v := .tuple #[.int .u32 r, .int .i64 0]) (by simp [results, Tryz.results49, go_sem]) rfl ⟨rfl, H0.out⟩
set_option maxRecDepth 100000 in
set_option maxHeartbeats 2000000 in
theorem renc_7 (op a b c i B r : Int) (u : Bool) (w : World) (B0 : 0 ≤ B) (B1 : B ≤ 1)
 (a0 : 0 ≤ a) (a1 : a ≤ 15) (b0 : 0 ≤ b) (b1 : b ≤ 15) (c0 : 0 ≤ c) (c1 : c ≤ 15) (o0 : 0 ≤ op) (o1 : op ≤ 15)
 (HM : Hid (∀ w, Calls Tryz.prog 54 #[.agg #[.int .i64 7, .int .i64 op, .int .i64 a, .int .i64 b, .int .i64 c, .int .i64 i, .bool u]] w fun e w' => e = .returned (.bool true) ∧ Kept w w'))
 (HO : Hid (∀ w, Calls Tryz.prog 75 #[.bool u] w fun e w' => e = .returned (.int .u32 B) ∧ w = w')) (HR : Hid (bits .or .u32 (bits .or .u32 (bits .or .u32 (3758096384) (B * 268435456)) (op * 16777216)) (i % 16777216) = r)) :
 Calls Tryz.prog 49 #[.agg #[.int .i64 7, .int .i64 op, .int .i64 a, .int .i64 b, .int .i64 c, .int .i64 i, .bool u]] w fun e w' => e = .returned (.tuple #[.int .u32 r, .int .i64 0]) ∧ Kept w w' := by
 have X0 := Lib.hid (Box.new 7 op a b c i u w)
 have H0 := Lib.hid (show Kept w (w.alloc (.cells #[.int .i64 7, .int .i64 op, .int .i64 a, .int .i64 b, .int .i64 c, .int .i64 i, .bool u] 76)) from (Kept.refl w).alloc _ _)
 go_enter Tryz.func49, Tryz.ntmps49
 go_wp2_with fail
 refine (HM.out _).mono ?_; rintro e w1 ⟨rfl, hK1⟩
 obtain ⟨j0, j1, j2, j3, j4, j5, j6⟩ := (X0.out.kept hK1).cells
 replace H0 := Lib.hid (H0.out.trans hK1)
 replace X0 := Lib.hid (X0.out.kept hK1)
 clear hK1
 go_wp2_with fail
 refine (HO.out _).mono ?_; rintro e w2 ⟨rfl, rfl⟩
 go_wp2_with fail
 have hR := HR.out
 simp only [hR]
 exact bodyPost_ret (v := .tuple #[.int .u32 r, .int .i64 0]) (by simp [results, Tryz.results49, go_sem]) rfl ⟨rfl, H0.out⟩
theorem I.or_low (c a : Int) (k : Nat) (ha0 : 0 ≤ a) (ha : a < ((2 ^ k : Nat) : Int)) (hc0 : 0 ≤ c) (hc : c < 4294967296) (hcm : c % ((2 ^ k : Nat) : Int) = 0) (hk : k ≤ 32) : bits .or .u32 c a = c + a := by
 obtain ⟨A, rfl⟩ := Int.eq_ofNat_of_zero_le ha0
 obtain ⟨C, rfl⟩ := Int.eq_ofNat_of_zero_le hc0
 have hp : 2 ^ k ≤ 4294967296 := F.pow_le32 k hk
 rw [u32_or_nat _ _ (by omega) (by omega), nat_join k C A (by omega) (by omega)]
 omega
theorem I.rsum_1 (op a b c i B S T : Int) (a0 : 0 ≤ a) (a1 : a ≤ 15) (b0 : 0 ≤ b) (b1 : b ≤ 15) (c0 : 0 ≤ c) (c1 : c ≤ 15) (o0 : 0 ≤ op) (o1 : op ≤ 15) (B0 : 0 ≤ B) (B1 : B ≤ 1) (S0 : 0 ≤ S) (S1 : S ≤ 1) (T0 : 0 ≤ T) (T1 : T ≤ 1) : bits .or .u32 (bits .or .u32 (bits .or .u32 (bits .or .u32 (B * 536870912) (a * 16777216)) (b * 1048576)) (op * 65536)) (c) = B * 536870912 + a * 16777216 + b * 1048576 + op * 65536 + c := by
 rw [I.or_low (B * 536870912) (a * 16777216) 28 (by omega) (by omega) (by omega) (by omega) (by omega) (by omega)]
 rw [I.or_low (B * 536870912 + a * 16777216) (b * 1048576) 24 (by omega) (by omega) (by omega) (by omega) (by omega) (by omega)]
 rw [I.or_low (B * 536870912 + a * 16777216 + b * 1048576) (op * 65536) 20 (by omega) (by omega) (by omega) (by omega) (by omega) (by omega)]
 rw [I.or_low (B * 536870912 + a * 16777216 + b * 1048576 + op * 65536) (c) 16 (by omega) (by omega) (by omega) (by omega) (by omega) (by omega)]
theorem I.rsum_2 (op a b c i B S T : Int) (a0 : 0 ≤ a) (a1 : a ≤ 15) (b0 : 0 ≤ b) (b1 : b ≤ 15) (c0 : 0 ≤ c) (c1 : c ≤ 15) (o0 : 0 ≤ op) (o1 : op ≤ 15) (B0 : 0 ≤ B) (B1 : B ≤ 1) (S0 : 0 ≤ S) (S1 : S ≤ 1) (T0 : 0 ≤ T) (T1 : T ≤ 1) : bits .or .u32 (bits .or .u32 (bits .or .u32 (bits .or .u32 (bits .or .u32 (bits .or .u32 (1073741824) (IntKind.u32.wrap (B * 536870912))) (IntKind.u32.wrap (S * 268435456))) (a * 16777216)) (b * 1048576)) (op * 65536)) ((IntKind.u32.wrap i).tmod 65536) = 1073741824 + B * 536870912 + S * 268435456 + a * 16777216 + b * 1048576 + op * 65536 + i % 65536 := by
 rw [show IntKind.u32.wrap (B * 536870912) = B * 536870912 by rw [IntKind.wrap_u32]; omega, show IntKind.u32.wrap (S * 268435456) = S * 268435456 by rw [IntKind.wrap_u32]; omega]
 rw [show (IntKind.u32.wrap i).tmod 65536 = i % 65536 by rw [IntKind.wrap_u32, Int.tmod_eq_emod_of_nonneg (by omega)]; omega]
 rw [I.or_low (1073741824) (B * 536870912) 30 (by omega) (by omega) (by omega) (by omega) (by omega) (by omega)]
 rw [I.or_low (1073741824 + B * 536870912) (S * 268435456) 29 (by omega) (by omega) (by omega) (by omega) (by omega) (by omega)]
 rw [I.or_low (1073741824 + B * 536870912 + S * 268435456) (a * 16777216) 28 (by omega) (by omega) (by omega) (by omega) (by omega) (by omega)]
 rw [I.or_low (1073741824 + B * 536870912 + S * 268435456 + a * 16777216) (b * 1048576) 24 (by omega) (by omega) (by omega) (by omega) (by omega) (by omega)]
 rw [I.or_low (1073741824 + B * 536870912 + S * 268435456 + a * 16777216 + b * 1048576) (op * 65536) 20 (by omega) (by omega) (by omega) (by omega) (by omega) (by omega)]
 rw [I.or_low (1073741824 + B * 536870912 + S * 268435456 + a * 16777216 + b * 1048576 + op * 65536) (i % 65536) 16 (by omega) (by omega) (by omega) (by omega) (by omega) (by omega)]
theorem I.rsum_3 (op a b c i B S T : Int) (a0 : 0 ≤ a) (a1 : a ≤ 15) (b0 : 0 ≤ b) (b1 : b ≤ 15) (c0 : 0 ≤ c) (c1 : c ≤ 15) (o0 : 0 ≤ op) (o1 : op ≤ 15) (B0 : 0 ≤ B) (B1 : B ≤ 1) (S0 : 0 ≤ S) (S1 : S ≤ 1) (T0 : 0 ≤ T) (T1 : T ≤ 1) : bits .or .u32 (536870912) (a * 16777216) = 536870912 + a * 16777216 := by
 rw [I.or_low (536870912) (a * 16777216) 28 (by omega) (by omega) (by omega) (by omega) (by omega) (by omega)]
theorem I.rsum_4 (op a b c i B S T : Int) (a0 : 0 ≤ a) (a1 : a ≤ 15) (b0 : 0 ≤ b) (b1 : b ≤ 15) (c0 : 0 ≤ c) (c1 : c ≤ 15) (o0 : 0 ≤ op) (o1 : op ≤ 15) (B0 : 0 ≤ B) (B1 : B ≤ 1) (S0 : 0 ≤ S) (S1 : S ≤ 1) (T0 : 0 ≤ T) (T1 : T ≤ 1) : bits .or .u32 (805306368) (a * 16777216) = 805306368 + a * 16777216 := by
 rw [I.or_low (805306368) (a * 16777216) 28 (by omega) (by omega) (by omega) (by omega) (by omega) (by omega)]
theorem I.rsum_5 (op a b c i B S T : Int) (a0 : 0 ≤ a) (a1 : a ≤ 15) (b0 : 0 ≤ b) (b1 : b ≤ 15) (c0 : 0 ≤ c) (c1 : c ≤ 15) (o0 : 0 ≤ op) (o1 : op ≤ 15) (B0 : 0 ≤ B) (B1 : B ≤ 1) (S0 : 0 ≤ S) (S1 : S ≤ 1) (T0 : 0 ≤ T) (T1 : T ≤ 1) : bits .or .u32 (bits .or .u32 (bits .or .u32 (bits .or .u32 (bits .or .u32 (2147483648) (IntKind.u32.wrap (S * 536870912))) (IntKind.u32.wrap (T * 268435456))) (a * 16777216)) (b * 1048576)) ((IntKind.u32.wrap i).tmod 1048576) = 2147483648 + S * 536870912 + T * 268435456 + a * 16777216 + b * 1048576 + i % 1048576 := by
 rw [show IntKind.u32.wrap (S * 536870912) = S * 536870912 by rw [IntKind.wrap_u32]; omega, show IntKind.u32.wrap (T * 268435456) = T * 268435456 by rw [IntKind.wrap_u32]; omega]
 rw [show (IntKind.u32.wrap i).tmod 1048576 = i % 1048576 by rw [IntKind.wrap_u32, Int.tmod_eq_emod_of_nonneg (by omega)]; omega]
 rw [I.or_low (2147483648) (S * 536870912) 30 (by omega) (by omega) (by omega) (by omega) (by omega) (by omega)]
 rw [I.or_low (2147483648 + S * 536870912) (T * 268435456) 29 (by omega) (by omega) (by omega) (by omega) (by omega) (by omega)]
 rw [I.or_low (2147483648 + S * 536870912 + T * 268435456) (a * 16777216) 28 (by omega) (by omega) (by omega) (by omega) (by omega) (by omega)]
 rw [I.or_low (2147483648 + S * 536870912 + T * 268435456 + a * 16777216) (b * 1048576) 24 (by omega) (by omega) (by omega) (by omega) (by omega) (by omega)]
 rw [I.or_low (2147483648 + S * 536870912 + T * 268435456 + a * 16777216 + b * 1048576) (i % 1048576) 20 (by omega) (by omega) (by omega) (by omega) (by omega) (by omega)]
theorem I.rsum_6 (op a b c i B S T : Int) (a0 : 0 ≤ a) (a1 : a ≤ 15) (b0 : 0 ≤ b) (b1 : b ≤ 15) (c0 : 0 ≤ c) (c1 : c ≤ 15) (o0 : 0 ≤ op) (o1 : op ≤ 15) (B0 : 0 ≤ B) (B1 : B ≤ 1) (S0 : 0 ≤ S) (S1 : S ≤ 1) (T0 : 0 ≤ T) (T1 : T ≤ 1) : bits .or .u32 (bits .or .u32 (bits .or .u32 (3221225472) (B * 268435456)) (op * 16777216)) (c) = 3221225472 + B * 268435456 + op * 16777216 + c := by
 rw [I.or_low (3221225472) (B * 268435456) 29 (by omega) (by omega) (by omega) (by omega) (by omega) (by omega)]
 rw [I.or_low (3221225472 + B * 268435456) (op * 16777216) 28 (by omega) (by omega) (by omega) (by omega) (by omega) (by omega)]
 rw [I.or_low (3221225472 + B * 268435456 + op * 16777216) (c) 24 (by omega) (by omega) (by omega) (by omega) (by omega) (by omega)]
theorem I.rsum_7 (op a b c i B S T : Int) (a0 : 0 ≤ a) (a1 : a ≤ 15) (b0 : 0 ≤ b) (b1 : b ≤ 15) (c0 : 0 ≤ c) (c1 : c ≤ 15) (o0 : 0 ≤ op) (o1 : op ≤ 15) (B0 : 0 ≤ B) (B1 : B ≤ 1) (S0 : 0 ≤ S) (S1 : S ≤ 1) (T0 : 0 ≤ T) (T1 : T ≤ 1) : bits .or .u32 (bits .or .u32 (bits .or .u32 (3758096384) (B * 268435456)) (op * 16777216)) (i % 16777216) = 3758096384 + B * 268435456 + op * 16777216 + i % 16777216 := by
 rw [I.or_low (3758096384) (B * 268435456) 29 (by omega) (by omega) (by omega) (by omega) (by omega) (by omega)]
 rw [I.or_low (3758096384 + B * 268435456) (op * 16777216) 28 (by omega) (by omega) (by omega) (by omega) (by omega) (by omega)]
 rw [I.or_low (3758096384 + B * 268435456 + op * 16777216) (i % 16777216) 24 (by omega) (by omega) (by omega) (by omega) (by omega) (by omega)]
theorem renc_any (k op a b c i : Int) (u : Bool) (w : World) :
 Calls Tryz.prog 49 #[.agg #[.int .i64 k, .int .i64 op, .int .i64 a, .int .i64 b, .int .i64 c, .int .i64 i, .bool u]] w fun e w' => e = .returned (.tuple #[.int .u32 (I.enc ⟨k, op, a, b, c, i, u⟩), .int .i64 (I.err ⟨k, op, a, b, c, i, u⟩)]) ∧ Kept w w' := by
 have HM := rmay_any k op a b c i u
 by_cases h : I.May ⟨k, op, a, b, c, i, u⟩
 · have e1 : I.may ⟨k, op, a, b, c, i, u⟩ = true := decide_eq_true h
   simp only [I.enc, I.err, e1, reduceIte] at *
   have HO := one_any u
   have B0 := I.bit_lo u
   have B1 := I.bit_hi u
   have h' := h
   unfold I.May at h'
   dsimp only at h'
   obtain ⟨⟨a0, a1, b0, b1, c0, c1⟩, h'⟩ := h'
   have z0 : (0 : Int) ≤ 0 := by omega
   have z1 : (0 : Int) ≤ 1 := by omega
   rcases h' with ⟨rfl, h'⟩ | ⟨rfl, h'⟩ | ⟨rfl | rfl, h'⟩ | ⟨rfl, h'⟩ | ⟨rfl, h'⟩ | ⟨rfl, h'⟩
   · exact renc_1 op a b c i _ _ u w B0 B1 a0 a1 b0 b1 c0 c1 (by omega) (by omega) (Lib.hid HM) (Lib.hid HO) (Lib.hid ((I.rsum_1 op a b c i (I.bit u) 0 0 a0 a1 b0 b1 c0 c1 (by omega) (by omega) B0 B1 z0 z1 z0 z1).trans (by simp [I.word])))
   · exact renc_2 op a b c i _ _ _ u w B0 B1 a0 a1 b0 b1 c0 c1 (by omega) (by omega) (Lib.hid HM) (Lib.hid HO) (Lib.hid ((I.rsum_2 op a b c i _ (I.bit (decide (i < 0))) 0 a0 a1 b0 b1 c0 c1 (by omega) (by omega) B0 B1 (I.bit_lo _) (I.bit_hi _) z0 z1).trans (by simp [I.word]))) (Lib.hid (one_any _)) (I.bit_lo _) (I.bit_hi _)
   · exact renc_3 op a b c i _ _ u w B0 B1 a0 a1 b0 b1 c0 c1 (by omega) (by omega) (Lib.hid HM) (Lib.hid HO) (Lib.hid ((I.rsum_3 op a b c i (I.bit u) 0 0 a0 a1 b0 b1 c0 c1 (by omega) (by omega) B0 B1 z0 z1 z0 z1).trans (by simp [I.word])))
   · exact renc_4 op a b c i _ _ u w B0 B1 a0 a1 b0 b1 c0 c1 (by omega) (by omega) (Lib.hid HM) (Lib.hid HO) (Lib.hid ((I.rsum_4 op a b c i (I.bit u) 0 0 a0 a1 b0 b1 c0 c1 (by omega) (by omega) B0 B1 z0 z1 z0 z1).trans (by simp [I.word])))
   · have q : I.bit (decide (2 ≤ op)) * 536870912 + I.bit (op.tmod 2 == 1) * 268435456 = op * 268435456 := by
      rcases (show op = 0 ∨ op = 1 ∨ op = 2 ∨ op = 3 by omega) with rfl | rfl | rfl | rfl <;> rfl
     exact renc_5 op a b c i _ _ _ _ u w B0 B1 a0 a1 b0 b1 c0 c1 (by omega) (by omega) (Lib.hid HM) (Lib.hid HO) (Lib.hid ((I.rsum_5 op a b c i (I.bit u) (I.bit (decide (2 ≤ op))) (I.bit (op.tmod 2 == 1)) a0 a1 b0 b1 c0 c1 (by omega) (by omega) B0 B1 (I.bit_lo _) (I.bit_hi _) (I.bit_lo _) (I.bit_hi _)).trans (by simp [I.word]; omega))) (Lib.hid (one_any _)) (I.bit_lo _) (I.bit_hi _) (Lib.hid (one_any _)) (I.bit_lo _) (I.bit_hi _)
   · exact renc_6 op a b c i _ _ u w B0 B1 a0 a1 b0 b1 c0 c1 (by omega) (by omega) (Lib.hid HM) (Lib.hid HO) (Lib.hid ((I.rsum_6 op a b c i (I.bit u) 0 0 a0 a1 b0 b1 c0 c1 (by omega) (by omega) B0 B1 z0 z1 z0 z1).trans (by simp [I.word])))
   · exact renc_7 op a b c i _ _ u w B0 B1 a0 a1 b0 b1 c0 c1 (by omega) (by omega) (Lib.hid HM) (Lib.hid HO) (Lib.hid ((I.rsum_7 op a b c i (I.bit u) 0 0 a0 a1 b0 b1 c0 c1 (by omega) (by omega) B0 B1 z0 z1 z0 z1).trans (by simp [I.word])))
 · have e1 : I.may ⟨k, op, a, b, c, i, u⟩ = false := decide_eq_false h
   simp only [I.enc, I.err, e1, Bool.false_eq_true, reduceIte] at *
   have HM := Lib.hid HM
   have HB := Lib.hid (show Kept w (w.alloc (.cells #[.int .i64 k, .int .i64 op, .int .i64 a, .int .i64 b, .int .i64 c, .int .i64 i, .bool u] 76)) from (Kept.refl w).alloc _ _)
   clear h e1
   go_enter Tryz.func49, Tryz.ntmps49
   go_wp2_with fail
   refine (HM.out _).mono ?_; rintro e w1 ⟨rfl, hK⟩
   go_wp2_with fail
   exact bodyPost_ret (v := .tuple #[.int .u32 0, .int .i64 1]) (by simp [results, Tryz.results49, go_sem]) rfl ⟨rfl, HB.out.trans hK⟩
set_option maxRecDepth 100000 in
set_option maxHeartbeats 1000000 in
theorem guess_0a (x a b : Int) (w : World) (x0 : 0 ≤ x) (x1 : x < 4294967296)
 (EF : x / 1073741824 = 0) (EU : (bits .and .u32 (x / 536870912) 1 == 1) = true) (EV : (bits .and .u32 (x / 268435456) 1 == 1) = true) (EA : bits .and .u32 (x / 16777216) 15 = a) (a0 : 0 ≤ a) (a1 : a ≤ 15) (EB : bits .and .u32 (x / 1048576) 15 = b) (b0 : 0 ≤ b) (b1 : b ≤ 15) (EO : bits .and .u32 (x / 65536) 15 = 0) :
 Calls Tryz.prog 48 #[.int .u32 x] w fun e w' => e = .returned (.agg #[.int .i64 4, .int .i64 0, .int .i64 a, .int .i64 0, .int .i64 0, .int .i64 0, .bool false]) ∧ Kept w w' := by
 go_enter Tryz.func48, Tryz.ntmps48
 go_wp2_with fail
 exact bodyPost_ret (v := .agg #[.int .i64 4, .int .i64 0, .int .i64 a, .int .i64 0, .int .i64 0, .int .i64 0, .bool false]) (by simp [results, Tryz.results48, go_sem]) rfl ⟨rfl, (Kept.refl w).alloc _ _⟩
set_option maxRecDepth 100000 in
set_option maxHeartbeats 1000000 in
theorem guess_0b (x a b : Int) (w : World) (x0 : 0 ≤ x) (x1 : x < 4294967296)
 (EF : x / 1073741824 = 0) (EU : (bits .and .u32 (x / 536870912) 1 == 1) = true) (EV : (bits .and .u32 (x / 268435456) 1 == 1) = false) (EA : bits .and .u32 (x / 16777216) 15 = a) (a0 : 0 ≤ a) (a1 : a ≤ 15) (EB : bits .and .u32 (x / 1048576) 15 = b) (b0 : 0 ≤ b) (b1 : b ≤ 15) (EO : bits .and .u32 (x / 65536) 15 = 0) :
 Calls Tryz.prog 48 #[.int .u32 x] w fun e w' => e = .returned (.agg #[.int .i64 3, .int .i64 0, .int .i64 a, .int .i64 0, .int .i64 0, .int .i64 0, .bool false]) ∧ Kept w w' := by
 go_enter Tryz.func48, Tryz.ntmps48
 go_wp2_with fail
 exact bodyPost_ret (v := .agg #[.int .i64 3, .int .i64 0, .int .i64 a, .int .i64 0, .int .i64 0, .int .i64 0, .bool false]) (by simp [results, Tryz.results48, go_sem]) rfl ⟨rfl, (Kept.refl w).alloc _ _⟩
set_option maxRecDepth 100000 in
set_option maxHeartbeats 1000000 in
theorem guess_0c (x a b c op : Int) (v : Bool) (w : World) (x0 : 0 ≤ x) (x1 : x < 4294967296)
 (EF : x / 1073741824 = 0) (EU : (bits .and .u32 (x / 536870912) 1 == 1) = true) (EV : (bits .and .u32 (x / 268435456) 1 == 1) = v) (EA : bits .and .u32 (x / 16777216) 15 = a) (a0 : 0 ≤ a) (a1 : a ≤ 15) (EB : bits .and .u32 (x / 1048576) 15 = b) (b0 : 0 ≤ b) (b1 : b ≤ 15) (EO : bits .and .u32 (x / 65536) 15 = op) (o0 : 0 ≤ op) (o1 : op ≤ 15) (hz : (op == 0) = false) (hz1 : ¬ op = 0) (EC : bits .and .u32 x 15 = c) (c0 : 0 ≤ c) (c1 : c ≤ 15) :
 Calls Tryz.prog 48 #[.int .u32 x] w fun e w' => e = .returned (.agg #[.int .i64 1, .int .i64 op, .int .i64 a, .int .i64 b, .int .i64 c, .int .i64 0, .bool true]) ∧ Kept w w' := by
 go_enter Tryz.func48, Tryz.ntmps48
 go_wp2_with fail
 exact bodyPost_ret (v := .agg #[.int .i64 1, .int .i64 op, .int .i64 a, .int .i64 b, .int .i64 c, .int .i64 0, .bool true]) (by simp [results, Tryz.results48, go_sem]) rfl ⟨rfl, (Kept.refl w).alloc _ _⟩
set_option maxRecDepth 100000 in
set_option maxHeartbeats 1000000 in
theorem guess_0d (x a b c op : Int) (v : Bool) (w : World) (x0 : 0 ≤ x) (x1 : x < 4294967296)
 (EF : x / 1073741824 = 0) (EU : (bits .and .u32 (x / 536870912) 1 == 1) = false) (EV : (bits .and .u32 (x / 268435456) 1 == 1) = v) (EA : bits .and .u32 (x / 16777216) 15 = a) (a0 : 0 ≤ a) (a1 : a ≤ 15) (EB : bits .and .u32 (x / 1048576) 15 = b) (b0 : 0 ≤ b) (b1 : b ≤ 15) (EO : bits .and .u32 (x / 65536) 15 = op) (o0 : 0 ≤ op) (o1 : op ≤ 15) (EC : bits .and .u32 x 15 = c) (c0 : 0 ≤ c) (c1 : c ≤ 15) :
 Calls Tryz.prog 48 #[.int .u32 x] w fun e w' => e = .returned (.agg #[.int .i64 1, .int .i64 op, .int .i64 a, .int .i64 b, .int .i64 c, .int .i64 0, .bool false]) ∧ Kept w w' := by
 go_enter Tryz.func48, Tryz.ntmps48
 go_wp2_with fail
 exact bodyPost_ret (v := .agg #[.int .i64 1, .int .i64 op, .int .i64 a, .int .i64 b, .int .i64 c, .int .i64 0, .bool false]) (by simp [results, Tryz.results48, go_sem]) rfl ⟨rfl, (Kept.refl w).alloc _ _⟩
set_option maxRecDepth 100000 in
set_option maxHeartbeats 1000000 in
theorem guess_1t (x a b m op : Int) (u : Bool) (w : World) (x0 : 0 ≤ x) (x1 : x < 4294967296)
 (EF : x / 1073741824 = 1) (EU : (bits .and .u32 (x / 536870912) 1 == 1) = u) (EV : (bits .and .u32 (x / 268435456) 1 == 1) = true) (EA : bits .and .u32 (x / 16777216) 15 = a) (a0 : 0 ≤ a) (a1 : a ≤ 15) (EB : bits .and .u32 (x / 1048576) 15 = b) (b0 : 0 ≤ b) (b1 : b ≤ 15) (EO : bits .and .u32 (x / 65536) 15 = op) (o0 : 0 ≤ op) (o1 : op ≤ 15) (EM : bits .and .u32 x 65535 = m) (m0 : 0 ≤ m) (m1 : m ≤ 65535) :
 Calls Tryz.prog 48 #[.int .u32 x] w fun e w' => e = .returned (.agg #[.int .i64 2, .int .i64 op, .int .i64 a, .int .i64 b, .int .i64 0, .int .i64 (m - 65536), .bool u]) ∧ Kept w w' := by
 go_enter Tryz.func48, Tryz.ntmps48
 go_wp2_with fail
 exact bodyPost_ret (v := .agg #[.int .i64 2, .int .i64 op, .int .i64 a, .int .i64 b, .int .i64 0, .int .i64 (m - 65536), .bool u]) (by simp [results, Tryz.results48, go_sem]) rfl ⟨rfl, (Kept.refl w).alloc _ _⟩
set_option maxRecDepth 100000 in
set_option maxHeartbeats 1000000 in
theorem guess_1f (x a b m op : Int) (u : Bool) (w : World) (x0 : 0 ≤ x) (x1 : x < 4294967296)
 (EF : x / 1073741824 = 1) (EU : (bits .and .u32 (x / 536870912) 1 == 1) = u) (EV : (bits .and .u32 (x / 268435456) 1 == 1) = false) (EA : bits .and .u32 (x / 16777216) 15 = a) (a0 : 0 ≤ a) (a1 : a ≤ 15) (EB : bits .and .u32 (x / 1048576) 15 = b) (b0 : 0 ≤ b) (b1 : b ≤ 15) (EO : bits .and .u32 (x / 65536) 15 = op) (o0 : 0 ≤ op) (o1 : op ≤ 15) (EM : bits .and .u32 x 65535 = m) (m0 : 0 ≤ m) (m1 : m ≤ 65535) :
 Calls Tryz.prog 48 #[.int .u32 x] w fun e w' => e = .returned (.agg #[.int .i64 2, .int .i64 op, .int .i64 a, .int .i64 b, .int .i64 0, .int .i64 m, .bool u]) ∧ Kept w w' := by
 go_enter Tryz.func48, Tryz.ntmps48
 go_wp2_with fail
 exact bodyPost_ret (v := .agg #[.int .i64 2, .int .i64 op, .int .i64 a, .int .i64 b, .int .i64 0, .int .i64 m, .bool u]) (by simp [results, Tryz.results48, go_sem]) rfl ⟨rfl, (Kept.refl w).alloc _ _⟩
set_option maxRecDepth 100000 in
set_option maxHeartbeats 1000000 in
theorem guess_2 (x a b op i U V : Int) (u : Bool) (v : Bool) (w : World) (x0 : 0 ≤ x) (x1 : x < 4294967296)
 (EF : x / 1073741824 = 2) (EU : (bits .and .u32 (x / 536870912) 1 == 1) = u) (EV : (bits .and .u32 (x / 268435456) 1 == 1) = v) (EA : bits .and .u32 (x / 16777216) 15 = a) (a0 : 0 ≤ a) (a1 : a ≤ 15) (EB : bits .and .u32 (x / 1048576) 15 = b) (b0 : 0 ≤ b) (b1 : b ≤ 15) (EO : bits .and .u32 (x / 65536) 15 = op) (o0 : 0 ≤ op) (o1 : op ≤ 15) (U0 : 0 ≤ U) (U1 : U ≤ 1) (V0 : 0 ≤ V) (V1 : V ≤ 1)
 (CU : Hid (∀ w, Calls Tryz.prog 75 #[.bool u] w fun e w' => e = .returned (.int .u32 U) ∧ w = w'))
 (CV : Hid (∀ w, Calls Tryz.prog 75 #[.bool v] w fun e w' => e = .returned (.int .u32 V) ∧ w = w'))
 (CS : Hid (∀ w, Calls Tryz.prog 76 #[.int .u32 x, .int .i64 20] w fun e w' => e = .returned (.int .i64 i) ∧ w = w')) :
 Calls Tryz.prog 48 #[.int .u32 x] w fun e w' => e = .returned (.agg #[.int .i64 5, .int .i64 (2 * U + V), .int .i64 a, .int .i64 b, .int .i64 0, .int .i64 i, .bool false]) ∧ Kept w w' := by
 go_enter Tryz.func48, Tryz.ntmps48
 go_wp2_with fail
 refine (CU.out _).mono ?_; rintro e w' ⟨rfl, rfl⟩
 go_wp2_with fail
 refine (CV.out _).mono ?_; rintro e w' ⟨rfl, rfl⟩
 go_wp2_with fail
 refine (CS.out _).mono ?_; rintro e w' ⟨rfl, rfl⟩
 go_wp2_with fail
 exact bodyPost_ret (v := .agg #[.int .i64 5, .int .i64 (2 * U + V), .int .i64 a, .int .i64 b, .int .i64 0, .int .i64 i, .bool false]) (by simp [results, Tryz.results48, go_sem]) rfl ⟨rfl, (Kept.refl w).alloc _ _⟩
set_option maxRecDepth 100000 in
set_option maxHeartbeats 1000000 in
theorem guess_3j (x a b op i : Int) (v : Bool) (w : World) (x0 : 0 ≤ x) (x1 : x < 4294967296)
 (EF : x / 1073741824 = 3) (EU : (bits .and .u32 (x / 536870912) 1 == 1) = true) (EV : (bits .and .u32 (x / 268435456) 1 == 1) = v) (EA : bits .and .u32 (x / 16777216) 15 = a) (a0 : 0 ≤ a) (a1 : a ≤ 15) (EB : bits .and .u32 (x / 1048576) 15 = b) (b0 : 0 ≤ b) (b1 : b ≤ 15) (EO : bits .and .u32 (x / 65536) 15 = op) (o0 : 0 ≤ op) (o1 : op ≤ 15)
 (CS : Hid (∀ w, Calls Tryz.prog 76 #[.int .u32 x, .int .i64 24] w fun e w' => e = .returned (.int .i64 i) ∧ w = w')) :
 Calls Tryz.prog 48 #[.int .u32 x] w fun e w' => e = .returned (.agg #[.int .i64 7, .int .i64 a, .int .i64 0, .int .i64 0, .int .i64 0, .int .i64 i, .bool v]) ∧ Kept w w' := by
 go_enter Tryz.func48, Tryz.ntmps48
 go_wp2_with fail
 refine (CS.out _).mono ?_; rintro e w' ⟨rfl, rfl⟩
 go_wp2_with fail
 exact bodyPost_ret (v := .agg #[.int .i64 7, .int .i64 a, .int .i64 0, .int .i64 0, .int .i64 0, .int .i64 i, .bool v]) (by simp [results, Tryz.results48, go_sem]) rfl ⟨rfl, (Kept.refl w).alloc _ _⟩
set_option maxRecDepth 100000 in
set_option maxHeartbeats 1000000 in
theorem guess_3b (x a b op c : Int) (v : Bool) (w : World) (x0 : 0 ≤ x) (x1 : x < 4294967296)
 (EF : x / 1073741824 = 3) (EU : (bits .and .u32 (x / 536870912) 1 == 1) = false) (EV : (bits .and .u32 (x / 268435456) 1 == 1) = v) (EA : bits .and .u32 (x / 16777216) 15 = a) (a0 : 0 ≤ a) (a1 : a ≤ 15) (EB : bits .and .u32 (x / 1048576) 15 = b) (b0 : 0 ≤ b) (b1 : b ≤ 15) (EO : bits .and .u32 (x / 65536) 15 = op) (o0 : 0 ≤ op) (o1 : op ≤ 15) (EC : bits .and .u32 x 15 = c) (c0 : 0 ≤ c) (c1 : c ≤ 15) :
 Calls Tryz.prog 48 #[.int .u32 x] w fun e w' => e = .returned (.agg #[.int .i64 6, .int .i64 a, .int .i64 0, .int .i64 0, .int .i64 c, .int .i64 0, .bool v]) ∧ Kept w w' := by
 go_enter Tryz.func48, Tryz.ntmps48
 go_wp2_with fail
 exact bodyPost_ret (v := .agg #[.int .i64 6, .int .i64 a, .int .i64 0, .int .i64 0, .int .i64 c, .int .i64 0, .bool v]) (by simp [results, Tryz.results48, go_sem]) rfl ⟨rfl, (Kept.refl w).alloc _ _⟩
theorem rsgn_lit (x : Int) (hx : U32 x) (n r : Int) (hr : F.sgnd x (F.clamp n) = r) (w : World) :
 Calls Tryz.prog 76 #[.int .u32 x, .int .i64 n] w fun e w' => e = .returned (.int .i64 r) ∧ w = w' := hr ▸ rsgnd_any x n hx.1 hx.2 w
theorem rguess_any (x : Int) (hx : U32 x) (w : World) :
 Calls Tryz.prog 48 #[.int .u32 x] w fun e w' => e = .returned (.agg #[.int .i64 (I.guess x).k, .int .i64 (I.guess x).op, .int .i64 (I.guess x).a, .int .i64 (I.guess x).b, .int .i64 (I.guess x).c, .int .i64 (I.guess x).i, .bool (I.guess x).u]) ∧ Kept w w' := by
 have x0 := hx.1
 have x1 := hx.2
 have EA : bits .and .u32 (x / 16777216) 15 = x / 16777216 % 16 := I.and_mask _ ⟨by omega, by omega⟩ 4 15 (by omega) rfl
 have EB : bits .and .u32 (x / 1048576) 15 = x / 1048576 % 16 := I.and_mask _ ⟨by omega, by omega⟩ 4 15 (by omega) rfl
 have EO : bits .and .u32 (x / 65536) 15 = x / 65536 % 16 := I.and_mask _ ⟨by omega, by omega⟩ 4 15 (by omega) rfl
 have EC : bits .and .u32 x 15 = x % 16 := I.and_mask _ hx 4 15 (by omega) rfl
 have EM : bits .and .u32 x 65535 = x % 65536 := I.and_mask _ hx 16 65535 (by omega) rfl
 have EU : (bits .and .u32 (x / 536870912) 1 == 1) = decide (x / 536870912 % 2 = 1) := by
  rw [I.and_mask (x / 536870912) ⟨by omega, by omega⟩ 1 1 (by omega) rfl, Bool.eq_iff_iff, beq_iff_eq, decide_eq_true_eq]; rfl
 have EV : (bits .and .u32 (x / 268435456) 1 == 1) = decide (x / 268435456 % 2 = 1) := by
  rw [I.and_mask (x / 268435456) ⟨by omega, by omega⟩ 1 1 (by omega) rfl, Bool.eq_iff_iff, beq_iff_eq, decide_eq_true_eq]; rfl
 have hf : x / 1073741824 = 0 ∨ x / 1073741824 = 1 ∨ x / 1073741824 = 2 ∨ x / 1073741824 = 3 := by omega
 rcases hf with h | h | h | h
 · by_cases hu : x / 536870912 % 2 = 1
   · rw [decide_eq_true hu] at EU
     by_cases hz : x / 65536 % 16 = 0
     · rw [hz] at EO
       by_cases hv : x / 268435456 % 2 = 1
       · rw [decide_eq_true hv] at EV
         rw [show I.guess x = ⟨4, 0, x / 16777216 % 16, 0, 0, 0, false⟩ by unfold I.guess; rw [if_pos h, if_pos ⟨hu, hz⟩, if_pos hv]]
         exact guess_0a x (x / 16777216 % 16) (x / 1048576 % 16) w x0 x1 h EU EV EA (by omega) (by omega) EB (by omega) (by omega) EO
       · rw [decide_eq_false hv] at EV
         rw [show I.guess x = ⟨3, 0, x / 16777216 % 16, 0, 0, 0, false⟩ by unfold I.guess; rw [if_pos h, if_pos ⟨hu, hz⟩, if_neg hv]]
         exact guess_0b x (x / 16777216 % 16) (x / 1048576 % 16) w x0 x1 h EU EV EA (by omega) (by omega) EB (by omega) (by omega) EO
     · rw [show I.guess x = ⟨1, x / 65536 % 16, x / 16777216 % 16, x / 1048576 % 16, x % 16, 0, true⟩ by unfold I.guess; rw [if_pos h, if_neg (fun g => hz g.2), decide_eq_true hu]]
       exact guess_0c x (x / 16777216 % 16) (x / 1048576 % 16) (x % 16) (x / 65536 % 16) _ w x0 x1 h EU EV EA (by omega) (by omega) EB (by omega) (by omega) EO (by omega) (by omega) (by simpa using hz) hz EC (by omega) (by omega)
   · rw [decide_eq_false hu] at EU
     rw [show I.guess x = ⟨1, x / 65536 % 16, x / 16777216 % 16, x / 1048576 % 16, x % 16, 0, false⟩ by unfold I.guess; rw [if_pos h, if_neg (fun g => hu g.1), decide_eq_false hu]]
     exact guess_0d x (x / 16777216 % 16) (x / 1048576 % 16) (x % 16) (x / 65536 % 16) _ w x0 x1 h EU EV EA (by omega) (by omega) EB (by omega) (by omega) EO (by omega) (by omega) EC (by omega) (by omega)
 · by_cases hv : x / 268435456 % 2 = 1
   · rw [decide_eq_true hv] at EV
     rw [show I.guess x = ⟨2, x / 65536 % 16, x / 16777216 % 16, x / 1048576 % 16, 0, x % 65536 - 65536, decide (x / 536870912 % 2 = 1)⟩ by unfold I.guess; rw [if_neg (by omega), if_pos h, if_pos hv]]
     exact guess_1t x (x / 16777216 % 16) (x / 1048576 % 16) (x % 65536) (x / 65536 % 16) _ w x0 x1 h EU EV EA (by omega) (by omega) EB (by omega) (by omega) EO (by omega) (by omega) EM (by omega) (by omega)
   · rw [decide_eq_false hv] at EV
     rw [show I.guess x = ⟨2, x / 65536 % 16, x / 16777216 % 16, x / 1048576 % 16, 0, x % 65536, decide (x / 536870912 % 2 = 1)⟩ by unfold I.guess; rw [if_neg (by omega), if_pos h, if_neg hv]]
     exact guess_1f x (x / 16777216 % 16) (x / 1048576 % 16) (x % 65536) (x / 65536 % 16) _ w x0 x1 h EU EV EA (by omega) (by omega) EB (by omega) (by omega) EO (by omega) (by omega) EM (by omega) (by omega)
 · have hb : ∀ y : Int, I.bit (decide (y % 2 = 1)) = y % 2 := fun y => by
    by_cases q : y % 2 = 1
    · rw [decide_eq_true q, q]; rfl
    · rw [decide_eq_false q]; show (0 : Int) = _; omega
   have e : x / 268435456 % 4 = 2 * I.bit (decide (x / 536870912 % 2 = 1)) + I.bit (decide (x / 268435456 % 2 = 1)) := by rw [hb, hb]; omega
   rw [show I.guess x = ⟨5, 2 * I.bit (decide (x / 536870912 % 2 = 1)) + I.bit (decide (x / 268435456 % 2 = 1)), x / 16777216 % 16, x / 1048576 % 16, 0, I.sx 524288 (x % 1048576), false⟩ by unfold I.guess; rw [if_neg (by omega), if_neg (by omega), if_pos h, e]]
   exact guess_2 x (x / 16777216 % 16) (x / 1048576 % 16) (x / 65536 % 16) _ _ _ _ _ w x0 x1 h EU EV EA (by omega) (by omega) EB (by omega) (by omega) EO (by omega) (by omega) (I.bit_lo _) (I.bit_hi _) (I.bit_lo _) (I.bit_hi _) (Lib.hid (one_any _)) (Lib.hid (one_any _)) (Lib.hid (rsgn_lit x hx 20 _ (I.sx20 x)))
 · by_cases hu : x / 536870912 % 2 = 1
   · rw [decide_eq_true hu] at EU
     rw [show I.guess x = ⟨7, x / 16777216 % 16, 0, 0, 0, I.sx 8388608 (x % 16777216), decide (x / 268435456 % 2 = 1)⟩ by unfold I.guess; rw [if_neg (by omega), if_neg (by omega), if_neg (by omega), if_pos hu]]
     exact guess_3j x (x / 16777216 % 16) (x / 1048576 % 16) (x / 65536 % 16) _ _ w x0 x1 h EU EV EA (by omega) (by omega) EB (by omega) (by omega) EO (by omega) (by omega) (Lib.hid (rsgn_lit x hx 24 _ (I.sx24 x)))
   · rw [decide_eq_false hu] at EU
     rw [show I.guess x = ⟨6, x / 16777216 % 16, 0, 0, x % 16, 0, decide (x / 268435456 % 2 = 1)⟩ by unfold I.guess; rw [if_neg (by omega), if_neg (by omega), if_neg (by omega), if_neg hu]]
     exact guess_3b x (x / 16777216 % 16) (x / 1048576 % 16) (x / 65536 % 16) (x % 16) _ w x0 x1 h EU EV EA (by omega) (by omega) EB (by omega) (by omega) EO (by omega) (by omega) EC (by omega) (by omega)
set_option maxHeartbeats 2000000 in
theorem rdec_1 (x k op a b c i : Int) (u : Bool) (w : World)
 (CR : Hid (∀ w, Calls Tryz.prog 48 #[.int .u32 x] w fun e w' => e = .returned (.agg #[.int .i64 k, .int .i64 op, .int .i64 a, .int .i64 b, .int .i64 c, .int .i64 i, .bool u]) ∧ Kept w w'))
 (CE : Hid (∀ w, Calls Tryz.prog 49 #[.agg #[.int .i64 k, .int .i64 op, .int .i64 a, .int .i64 b, .int .i64 c, .int .i64 i, .bool u]] w fun e w' => e = .returned (.tuple #[.int .u32 0, .int .i64 1]) ∧ Kept w w')) :
 Calls Tryz.prog 30 #[.int .u32 x] w fun e w' => e = .returned (.tuple #[.agg #[.int .i64 0, .int .i64 0, .int .i64 0, .int .i64 0, .int .i64 0, .int .i64 0, .bool false], .bool false]) ∧ Kept w w' := by
 have X1 := Lib.hid (Box.new 0 0 0 0 0 0 false w)
 have HB := Lib.hid (show Kept w (w.alloc (.cells #[.int .i64 0, .int .i64 0, .int .i64 0, .int .i64 0, .int .i64 0, .int .i64 0, .bool false] 76)) from (Kept.refl w).alloc _ _)
 have HL := Lib.hid (show w.heap.size < (w.alloc (.cells #[.int .i64 0, .int .i64 0, .int .i64 0, .int .i64 0, .int .i64 0, .int .i64 0, .bool false] 76)).heap.size from by simp)
 go_enter Tryz.func30, Tryz.ntmps30
 go_wp2_with fail
 refine (CR.out _).mono ?_; rintro e w5 ⟨rfl, hK1⟩
 have HK := Lib.hid hK1
 have HN := Lib.hid (show w.heap.size ≠ w5.heap.size from by have := HK.out.size; have := HL.out; omega)
 clear hK1
 go_upto_region 2 with (fail)
 have XI := Box.new k op a b c i u w5
 have XZ := (X1.out.kept HK.out).alloc (.cells #[.int .i64 k, .int .i64 op, .int .i64 a, .int .i64 b, .int .i64 c, .int .i64 i, .bool u] 76)
 have KK := (HB.out.trans HK.out).alloc #[.int .i64 k, .int .i64 op, .int .i64 a, .int .i64 b, .int .i64 c, .int .i64 i, .bool u] 76
 generalize (w5.alloc (.cells #[.int .i64 k, .int .i64 op, .int .i64 a, .int .i64 b, .int .i64 c, .int .i64 i, .bool u] 76)) = w6 at XI XZ KK ⊢
 generalize w5.heap.size = B2 at HN XI ⊢
 have HI := Lib.hid XI
 have HZ := Lib.hid XZ
 have HKK := Lib.hid KK
 clear HK X1 HB HL XI XZ KK
 obtain ⟨i0, i1, i2, i3, i4, i5, i6⟩ := HI.out.cells
 go_wp2_with fail
 refine (CE.out _).mono ?_; rintro e w7 ⟨rfl, hK6⟩
 clear i0 i1 i2 i3 i4 i5 i6
 obtain ⟨i0, i1, i2, i3, i4, i5, i6⟩ := (HI.out.kept hK6).cells
 obtain ⟨z0, z1, z2, z3, z4, z5, z6⟩ := (HZ.out.kept hK6).cells
 obtain ⟨f0, f1, f2, f3, f4, f5, f6⟩ := (HZ.out.kept hK6).free
 have R := Lib.hid ((HZ.out.kept hK6).stored (k' := 0) (op' := 0) (a' := 0) (b' := 0) (c' := 0) (i' := 0) (u' := false))
 have RK := Lib.hid ((HKK.out.trans hK6).store7 (B' := w.heap.size) (by omega) (0) (0) (0) (0) (0) (0) (false))
 go_wp2_with fail
 clear z0 z1 z2 z3 z4 z5 z6 f0 f1 f2 f3 f4 f5 f6
 have R := R.out
 have RK := RK.out
 unfold store7 at R RK
 generalize (((((((w7.setCell ⟨w.heap.size, 0, none⟩ (.int .i64 (0))).setCell ⟨w.heap.size, 1, none⟩ (.int .i64 (0))).setCell ⟨w.heap.size, 2, none⟩ (.int .i64 (0))).setCell ⟨w.heap.size, 3, none⟩ (.int .i64 (0))).setCell ⟨w.heap.size, 4, none⟩ (.int .i64 (0))).setCell ⟨w.heap.size, 5, none⟩ (.int .i64 (0))).setCell ⟨w.heap.size, 6, none⟩ (.bool (false))) = w9 at R RK ⊢
 obtain ⟨r0, r1, r2, r3, r4, r5, r6⟩ := R.cells
 exact bodyPost_ret (v := .tuple #[.agg #[.int .i64 0, .int .i64 0, .int .i64 0, .int .i64 0, .int .i64 0, .int .i64 0, .bool false], .bool false]) (by simp [results, Tryz.results30, go_sem, r0, r1, r2, r3, r4, r5, r6]) rfl ⟨rfl, RK⟩
set_option maxHeartbeats 2000000 in
theorem rdec_2 (x k op a b c i own : Int) (u : Bool) (hne : ¬ own = x) (hn1 : (own == x) = false) (hn2 : (own != x) = true) (w : World)
 (CR : Hid (∀ w, Calls Tryz.prog 48 #[.int .u32 x] w fun e w' => e = .returned (.agg #[.int .i64 k, .int .i64 op, .int .i64 a, .int .i64 b, .int .i64 c, .int .i64 i, .bool u]) ∧ Kept w w'))
 (CE : Hid (∀ w, Calls Tryz.prog 49 #[.agg #[.int .i64 k, .int .i64 op, .int .i64 a, .int .i64 b, .int .i64 c, .int .i64 i, .bool u]] w fun e w' => e = .returned (.tuple #[.int .u32 own, .int .i64 0]) ∧ Kept w w')) :
 Calls Tryz.prog 30 #[.int .u32 x] w fun e w' => e = .returned (.tuple #[.agg #[.int .i64 0, .int .i64 0, .int .i64 0, .int .i64 0, .int .i64 0, .int .i64 0, .bool false], .bool false]) ∧ Kept w w' := by
 have X1 := Lib.hid (Box.new 0 0 0 0 0 0 false w)
 have HB := Lib.hid (show Kept w (w.alloc (.cells #[.int .i64 0, .int .i64 0, .int .i64 0, .int .i64 0, .int .i64 0, .int .i64 0, .bool false] 76)) from (Kept.refl w).alloc _ _)
 have HL := Lib.hid (show w.heap.size < (w.alloc (.cells #[.int .i64 0, .int .i64 0, .int .i64 0, .int .i64 0, .int .i64 0, .int .i64 0, .bool false] 76)).heap.size from by simp)
 go_enter Tryz.func30, Tryz.ntmps30
 go_wp2_with fail
 refine (CR.out _).mono ?_; rintro e w5 ⟨rfl, hK1⟩
 have HK := Lib.hid hK1
 have HN := Lib.hid (show w.heap.size ≠ w5.heap.size from by have := HK.out.size; have := HL.out; omega)
 clear hK1
 go_upto_region 2 with (fail)
 have XI := Box.new k op a b c i u w5
 have XZ := (X1.out.kept HK.out).alloc (.cells #[.int .i64 k, .int .i64 op, .int .i64 a, .int .i64 b, .int .i64 c, .int .i64 i, .bool u] 76)
 have KK := (HB.out.trans HK.out).alloc #[.int .i64 k, .int .i64 op, .int .i64 a, .int .i64 b, .int .i64 c, .int .i64 i, .bool u] 76
 generalize (w5.alloc (.cells #[.int .i64 k, .int .i64 op, .int .i64 a, .int .i64 b, .int .i64 c, .int .i64 i, .bool u] 76)) = w6 at XI XZ KK ⊢
 generalize w5.heap.size = B2 at HN XI ⊢
 have HI := Lib.hid XI
 have HZ := Lib.hid XZ
 have HKK := Lib.hid KK
 clear HK X1 HB HL XI XZ KK
 obtain ⟨i0, i1, i2, i3, i4, i5, i6⟩ := HI.out.cells
 go_wp2_with fail
 refine (CE.out _).mono ?_; rintro e w7 ⟨rfl, hK6⟩
 clear i0 i1 i2 i3 i4 i5 i6
 obtain ⟨i0, i1, i2, i3, i4, i5, i6⟩ := (HI.out.kept hK6).cells
 obtain ⟨z0, z1, z2, z3, z4, z5, z6⟩ := (HZ.out.kept hK6).cells
 obtain ⟨f0, f1, f2, f3, f4, f5, f6⟩ := (HZ.out.kept hK6).free
 have R := Lib.hid ((HZ.out.kept hK6).stored (k' := 0) (op' := 0) (a' := 0) (b' := 0) (c' := 0) (i' := 0) (u' := false))
 have RK := Lib.hid ((HKK.out.trans hK6).store7 (B' := w.heap.size) (by omega) (0) (0) (0) (0) (0) (0) (false))
 go_wp2_with fail
 clear z0 z1 z2 z3 z4 z5 z6 f0 f1 f2 f3 f4 f5 f6
 have R := R.out
 have RK := RK.out
 unfold store7 at R RK
 generalize (((((((w7.setCell ⟨w.heap.size, 0, none⟩ (.int .i64 (0))).setCell ⟨w.heap.size, 1, none⟩ (.int .i64 (0))).setCell ⟨w.heap.size, 2, none⟩ (.int .i64 (0))).setCell ⟨w.heap.size, 3, none⟩ (.int .i64 (0))).setCell ⟨w.heap.size, 4, none⟩ (.int .i64 (0))).setCell ⟨w.heap.size, 5, none⟩ (.int .i64 (0))).setCell ⟨w.heap.size, 6, none⟩ (.bool (false))) = w9 at R RK ⊢
 obtain ⟨r0, r1, r2, r3, r4, r5, r6⟩ := R.cells
 exact bodyPost_ret (v := .tuple #[.agg #[.int .i64 0, .int .i64 0, .int .i64 0, .int .i64 0, .int .i64 0, .int .i64 0, .bool false], .bool false]) (by simp [results, Tryz.results30, go_sem, r0, r1, r2, r3, r4, r5, r6]) rfl ⟨rfl, RK⟩
set_option maxHeartbeats 2000000 in
theorem rdec_3 (x k op a b c i : Int) (u : Bool) (w : World)
 (CR : Hid (∀ w, Calls Tryz.prog 48 #[.int .u32 x] w fun e w' => e = .returned (.agg #[.int .i64 k, .int .i64 op, .int .i64 a, .int .i64 b, .int .i64 c, .int .i64 i, .bool u]) ∧ Kept w w'))
 (CE : Hid (∀ w, Calls Tryz.prog 49 #[.agg #[.int .i64 k, .int .i64 op, .int .i64 a, .int .i64 b, .int .i64 c, .int .i64 i, .bool u]] w fun e w' => e = .returned (.tuple #[.int .u32 x, .int .i64 0]) ∧ Kept w w')) :
 Calls Tryz.prog 30 #[.int .u32 x] w fun e w' => e = .returned (.tuple #[.agg #[.int .i64 k, .int .i64 op, .int .i64 a, .int .i64 b, .int .i64 c, .int .i64 i, .bool u], .bool true]) ∧ Kept w w' := by
 have X1 := Lib.hid (Box.new 0 0 0 0 0 0 false w)
 have HB := Lib.hid (show Kept w (w.alloc (.cells #[.int .i64 0, .int .i64 0, .int .i64 0, .int .i64 0, .int .i64 0, .int .i64 0, .bool false] 76)) from (Kept.refl w).alloc _ _)
 have HL := Lib.hid (show w.heap.size < (w.alloc (.cells #[.int .i64 0, .int .i64 0, .int .i64 0, .int .i64 0, .int .i64 0, .int .i64 0, .bool false] 76)).heap.size from by simp)
 go_enter Tryz.func30, Tryz.ntmps30
 go_wp2_with fail
 refine (CR.out _).mono ?_; rintro e w5 ⟨rfl, hK1⟩
 have HK := Lib.hid hK1
 have HN := Lib.hid (show w.heap.size ≠ w5.heap.size from by have := HK.out.size; have := HL.out; omega)
 clear hK1
 go_upto_region 2 with (fail)
 have XI := Box.new k op a b c i u w5
 have XZ := (X1.out.kept HK.out).alloc (.cells #[.int .i64 k, .int .i64 op, .int .i64 a, .int .i64 b, .int .i64 c, .int .i64 i, .bool u] 76)
 have KK := (HB.out.trans HK.out).alloc #[.int .i64 k, .int .i64 op, .int .i64 a, .int .i64 b, .int .i64 c, .int .i64 i, .bool u] 76
 generalize (w5.alloc (.cells #[.int .i64 k, .int .i64 op, .int .i64 a, .int .i64 b, .int .i64 c, .int .i64 i, .bool u] 76)) = w6 at XI XZ KK ⊢
 generalize w5.heap.size = B2 at HN XI ⊢
 have HI := Lib.hid XI
 have HZ := Lib.hid XZ
 have HKK := Lib.hid KK
 clear HK X1 HB HL XI XZ KK
 obtain ⟨i0, i1, i2, i3, i4, i5, i6⟩ := HI.out.cells
 go_wp2_with fail
 refine (CE.out _).mono ?_; rintro e w7 ⟨rfl, hK6⟩
 clear i0 i1 i2 i3 i4 i5 i6
 obtain ⟨i0, i1, i2, i3, i4, i5, i6⟩ := (HI.out.kept hK6).cells
 obtain ⟨z0, z1, z2, z3, z4, z5, z6⟩ := (HZ.out.kept hK6).cells
 obtain ⟨f0, f1, f2, f3, f4, f5, f6⟩ := (HZ.out.kept hK6).free
 have R := Lib.hid ((HZ.out.kept hK6).stored (k' := k) (op' := op) (a' := a) (b' := b) (c' := c) (i' := i) (u' := u))
 have RK := Lib.hid ((HKK.out.trans hK6).store7 (B' := w.heap.size) (by omega) (k) (op) (a) (b) (c) (i) (u))
 go_wp2_with fail
 clear z0 z1 z2 z3 z4 z5 z6 f0 f1 f2 f3 f4 f5 f6
 have R := R.out
 have RK := RK.out
 unfold store7 at R RK
 generalize (((((((w7.setCell ⟨w.heap.size, 0, none⟩ (.int .i64 (k))).setCell ⟨w.heap.size, 1, none⟩ (.int .i64 (op))).setCell ⟨w.heap.size, 2, none⟩ (.int .i64 (a))).setCell ⟨w.heap.size, 3, none⟩ (.int .i64 (b))).setCell ⟨w.heap.size, 4, none⟩ (.int .i64 (c))).setCell ⟨w.heap.size, 5, none⟩ (.int .i64 (i))).setCell ⟨w.heap.size, 6, none⟩ (.bool (u))) = w9 at R RK ⊢
 obtain ⟨r0, r1, r2, r3, r4, r5, r6⟩ := R.cells
 exact bodyPost_ret (v := .tuple #[.agg #[.int .i64 k, .int .i64 op, .int .i64 a, .int .i64 b, .int .i64 c, .int .i64 i, .bool u], .bool true]) (by simp [results, Tryz.results30, go_sem, r0, r1, r2, r3, r4, r5, r6]) rfl ⟨rfl, RK⟩
theorem rdec_any (x : Int) (hx : U32 x) (w : World) :
 Calls Tryz.prog 30 #[.int .u32 x] w fun e w' => e = .returned (.tuple #[.agg #[.int .i64 (I.dec x).k, .int .i64 (I.dec x).op, .int .i64 (I.dec x).a, .int .i64 (I.dec x).b, .int .i64 (I.dec x).c, .int .i64 (I.dec x).i, .bool (I.dec x).u], .bool (I.is x)]) ∧ Kept w w' := by
 have CR := rguess_any x hx
 have CE := renc_any (I.guess x).k (I.guess x).op (I.guess x).a (I.guess x).b (I.guess x).c (I.guess x).i (I.guess x).u
 by_cases hm : I.may (I.guess x) = true
 · have e1 : I.err (I.guess x) = 0 := by simp [I.err, hm]
   have e2 : I.enc (I.guess x) = I.word (I.guess x) := by simp [I.enc, hm]
   have CE : ∀ w, Calls Tryz.prog 49 #[.agg #[.int .i64 (I.guess x).k, .int .i64 (I.guess x).op, .int .i64 (I.guess x).a, .int .i64 (I.guess x).b, .int .i64 (I.guess x).c, .int .i64 (I.guess x).i, .bool (I.guess x).u]] w fun e w' => e = .returned (.tuple #[.int .u32 (I.enc (I.guess x)), .int .i64 (I.err (I.guess x))]) ∧ Kept w w' := CE
   rw [e1, e2] at CE
   by_cases ho : I.word (I.guess x) = x
   · have e3 : I.is x = true := by simp [I.is, hm, ho]
     rw [ho] at CE
     rw [show I.dec x = I.guess x by simp [I.dec, e3], e3]
     exact rdec_3 x _ _ _ _ _ _ _ w (Lib.hid CR) (Lib.hid CE)
   · have e3 : I.is x = false := by simp [I.is, ho]
     rw [show I.dec x = ⟨0, 0, 0, 0, 0, 0, false⟩ by simp [I.dec, e3], e3]
     exact rdec_2 x _ _ _ _ _ _ _ _ ho (by simpa using ho) (by simpa using ho) w (Lib.hid CR) (Lib.hid CE)
 · have hm : I.may (I.guess x) = false := by simpa using hm
   have e1 : I.err (I.guess x) = 1 := by simp [I.err, hm]
   have e2 : I.enc (I.guess x) = 0 := by simp [I.enc, hm]
   have CE : ∀ w, Calls Tryz.prog 49 #[.agg #[.int .i64 (I.guess x).k, .int .i64 (I.guess x).op, .int .i64 (I.guess x).a, .int .i64 (I.guess x).b, .int .i64 (I.guess x).c, .int .i64 (I.guess x).i, .bool (I.guess x).u]] w fun e w' => e = .returned (.tuple #[.int .u32 (I.enc (I.guess x)), .int .i64 (I.err (I.guess x))]) ∧ Kept w w' := CE
   rw [e1, e2] at CE
   have e3 : I.is x = false := by simp [I.is, hm]
   rw [show I.dec x = ⟨0, 0, 0, 0, 0, 0, false⟩ by simp [I.dec, e3], e3]
   exact rdec_1 x _ _ _ _ _ _ _ w (Lib.hid CR) (Lib.hid CE)
structure X.Four (w0 : World) (F1 F2 F3 F4 : Nat → Prop) (w : World) : Prop where
 d12 : ∀ k, F1 k → ¬ F2 k
 d13 : ∀ k, F1 k → ¬ F3 k
 d14 : ∀ k, F1 k → ¬ F4 k
 d23 : ∀ k, F2 k → ¬ F3 k
 d24 : ∀ k, F2 k → ¬ F4 k
 d34 : ∀ k, F3 k → ¬ F4 k
 g1 : ∀ k, F1 k → w0.heap.size ≤ k
 g2 : ∀ k, F2 k → w0.heap.size ≤ k
 g3 : ∀ k, F3 k → w0.heap.size ≤ k
 g4 : ∀ k, F4 k → w0.heap.size ≤ k
 s1 : ∀ k, F1 k → k < w.heap.size
 s2 : ∀ k, F2 k → k < w.heap.size
 s3 : ∀ k, F3 k → k < w.heap.size
 s4 : ∀ k, F4 k → k < w.heap.size
 b : Below w0.heap.size w0 w
namespace X
theorem bt_st (ws : List Int) (a : Int) : M.bt ws a = 0 ∨ M.bt ws a = 3 := by unfold M.bt; split <;> simp
theorem wt_st (ws : List Int) (a : Int) : M.wt ws a = 0 ∨ M.wt ws a = 3 ∨ M.wt ws a = 4 := by
 unfold M.wt
 split
 · rcases bt_st ws a with h | h <;> simp [h]
 · simp
end X
end Go.Proofs.YtpfgmfiegnkocaaGreat
