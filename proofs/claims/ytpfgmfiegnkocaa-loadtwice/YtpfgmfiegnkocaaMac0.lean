/-
  Machines as plain states: what may turn (Turn), the block of a machine (Mac), what stores do to it, appends to the outputs. No Go function is named here.
-/
import Derived.Deep.MidRow
import Derived.Test.YtpfgmfiegnkocaaM12
import Derived.Test.YtpfgmfiegnkocaaM13
namespace Go.Proofs.Ytpfgmfiegnkocaa
open Go.RowKit
set_option linter.unusedVariables false
set_option linter.unusedSimpArgs false
set_option maxRecDepth 100000
/-- only blocks of F may have turned -/
structure Turn (F : Nat → Prop) (w w' : World) : Prop where
  os : w'.os = w.os
  tape : w'.tape = w.tape
  output : w'.output = w.output
  size : w.heap.size ≤ w'.heap.size
  block : ∀ k, k < w.heap.size → ¬ F k → w'.heap[k]? = w.heap[k]?
theorem Turn.refl (F : Nat → Prop) (w : World) : Turn F w w := ⟨rfl, rfl, rfl, Nat.le_refl _, fun _ _ _ => rfl⟩
theorem Turn.mono {F G : Nat → Prop} {w w' : World} (h : Turn F w w') (hm : ∀ k, k < w.heap.size → F k → G k) : Turn G w w' :=
  ⟨h.os, h.tape, h.output, h.size, fun k hk hG => h.block k hk fun hF => hG (hm k hk hF)⟩
theorem Turn.trans {F : Nat → Prop} {a b c : World} (h : Turn F a b) (k : Turn F b c) : Turn F a c :=
  ⟨k.os.trans h.os, k.tape.trans h.tape, k.output.trans h.output, Nat.le_trans h.size k.size, fun i hi hF => (k.block i (Nat.lt_of_lt_of_le hi h.size) hF).trans (h.block i hi hF)⟩
/-- a second step, by a set that has grown by new blocks alone -/
theorem Turn.then {F G : Nat → Prop} {a b c : World} (h : Turn F a b) (k : Turn G b c) (hG : ∀ i, G i → F i ∨ a.heap.size ≤ i) : Turn F a c :=
  ⟨k.os.trans h.os, k.tape.trans h.tape, k.output.trans h.output, Nat.le_trans h.size k.size, fun i hi hF => (k.block i (Nat.lt_of_lt_of_le hi h.size) fun hg => by
    rcases hG i hg with h1 | h1
    · exact hF h1
    · omega).trans (h.block i hi hF)⟩
theorem Kept.turn {w w' : World} (h : Kept w w') (F : Nat → Prop) : Turn F w w' := ⟨h.below.os, h.below.tape, h.below.output, h.below.size, fun k hk _ => h.below.block k hk⟩
theorem But.turn {B : Nat} {w w' : World} (h : But B w w') {F : Nat → Prop} (hB : F B) : Turn F w w' :=
  ⟨h.os, h.tape, h.output, h.size, fun k hk hF => h.block k hk fun e => hF (e ▸ hB)⟩
theorem grown_turn {w w' : World} {row : Option Nat} (h : w.grownBy w' row) {F : Nat → Prop} (hF : ∀ k, row = some k → F k) : Turn F w w' :=
  ⟨h.os, h.tape, h.output, h.size, fun k hk hn => h.block k hk fun e => hn (hF k e.symm)⟩
theorem Turn.below {F : Nat → Prop} {w w' : World} (h : Turn F w w') (N : Nat) (hN : N ≤ w.heap.size) (hF : ∀ k, F k → N ≤ k) : Below N w w' :=
  ⟨h.os, h.tape, h.output, h.size, fun k hk => h.block k (by omega) fun hk' => by have := hF k hk'; omega⟩
theorem Turn.kept0 {w w' : World} (h : Turn (fun _ => False) w w') : Below w.heap.size w w' := h.below _ (Nat.le_refl _) fun _ h => h.elim
theorem Turn.drew {F : Nat → Prop} {a b : World} (h : Turn F a b) : Turn F a b.drew := ⟨h.os, h.tape, h.output, h.size, h.block⟩
/-- stores into the cells behind a memory -/
theorem MemT.tail {t : TypeId} {tl : List Value} {B : Nat} {ws : List Int} {w : World} (h : MemT t tl B ws w) (j : Nat) (v : Value) (hv : tl[j]? = some v) : w.cell? ⟨B, 4097 + j, none⟩ = some v := by
  obtain ⟨cs, h1, _, _, _, h5⟩ := h.has; exact h1.cell _ _ ((h5 j).trans hv)
theorem MemT.set1 {t : TypeId} {tl : List Value} {B : Nat} {ws : List Int} {w : World} (h : MemT t tl B ws w) (j : Nat) (v : Value) : MemT t (tl.set j v) B ws (w.setCell ⟨B, 4097 + j, none⟩ v) := by
  obtain ⟨cs, hh, h2, h3, h4, h5⟩ := h.has
  have hl := h.len
  refine ⟨hl, h.rng, cs.setIfInBounds (4097 + j) v, hh.set _ _, by simpa using h2, ?_, fun k y hk => ?_, fun k => ?_⟩
  · rw [Array.getElem?_setIfInBounds_ne (by omega), h3]
  · have hk' : k < ws.length := by
      rcases Nat.lt_or_ge k ws.length with h1 | h1
      · exact h1
      · rw [List.getElem?_eq_none h1] at hk; cases hk
    rw [Array.getElem?_setIfInBounds_ne (by omega)]
    exact h4 k y hk
  · rw [List.getElem?_set]
    by_cases e : j = k
    · subst e
      rw [if_pos rfl]
      by_cases c : j < tl.length
      · rw [if_pos c, Array.getElem?_setIfInBounds_self_of_lt (by omega)]
      · rw [if_neg c, Array.getElem?_eq_none (by simp; omega)]
    · rw [if_neg e, Array.getElem?_setIfInBounds_ne (by omega)]
      exact h5 k
def X.put (tl : List Value) (j : Nat) : List Value → List Value
  | [] => tl
  | v :: r => X.put (tl.set j v) (j + 1) r
theorem MemT.setN {t : TypeId} {B : Nat} {ws : List Int} : ∀ (vs : List Value) (j : Nat) (tl : List Value) (w : World), MemT t tl B ws w → MemT t (X.put tl j vs) B ws (w.setCells B (4097 + j) vs)
  | [], _, _, _, h => h
  | v :: r, j, tl, w, h => by
    have := MemT.setN r (j + 1) (tl.set j v) (w.setCell ⟨B, 4097 + j, none⟩ v) (h.set1 j v)
    exact this
theorem but_setCells {B : Nat} : ∀ (vs : List Value) (o : Nat) (a w : World), But B a w → But B a (w.setCells B o vs)
  | [], _, _, _, h => h
  | v :: r, o, a, w, h => but_setCells r (o + 1) a _ (h.setCell o v)
theorem MemT.there {t : TypeId} {tl : List Value} {B : Nat} {ws : List Int} {w : World} (h : MemT t tl B ws w) (o n : Nat) (hn : o + n ≤ 4097 + tl.length) : w.there B o n := by
  obtain ⟨cs, hh, h2, _⟩ := h.has
  intro j hj
  have hj' : o + j < cs.size := by omega
  refine ⟨?_, hh.free _⟩
  rw [hh.cell (o + j) cs[o + j] (Array.getElem?_eq_getElem hj')]
  rfl
theorem MemT.at {t : TypeId} {tl : List Value} {B : Nat} {ws : List Int} {w : World} (h : MemT t tl B ws w) (j : Nat) (vs : List Value) (hv : ∀ k v, vs[k]? = some v → tl[j + k]? = some v) : w.rangeAt B (4097 + j) vs := by
  intro k v hk
  have := h.tail (j + k) v (hv k v hk)
  rwa [← Nat.add_assoc] at this
namespace X
/-- a machine: its words, registers, where it stands, how, its inputs and outputs -/
structure St where
  ws : List Int
  s : A.Regs
  pc : Int
  st : Int
  ins : List Int
  outs : List Int
/-- the cells behind the memory -/
def tl (si so : Value) (s : A.Regs) (pc st : Int) : List Value := [si, so, .int .u32 (s.r 0), .int .u32 (s.r 1), .int .u32 (s.r 2), .int .u32 (s.r 3), .int .u32 (s.r 4), .int .u32 (s.r 5), .int .u32 (s.r 6), .int .u32 (s.r 7), .int .u32 (s.r 8), .int .u32 (s.r 9), .int .u32 (s.r 10), .int .u32 (s.r 11), .int .u32 (s.r 12), .int .u32 (s.r 13), .int .u32 (s.r 14), .int .u32 (s.r 15), .int .u32 s.h, .bool s.n, .bool s.z, .bool s.c, .bool s.v, .int .u32 pc, .int .i64 st]
theorem tl_regs (si so : Value) (s s' : A.Regs) (pc st : Int) : X.put (tl si so s pc st) 2 (A.cells s').toList = tl si so s' pc st := by kernel_rfl
theorem tl_pc (si so : Value) (s : A.Regs) (pc st v : Int) : (tl si so s pc st).set 23 (.int .u32 v) = tl si so s v st := rfl
theorem tl_st (si so : Value) (s : A.Regs) (pc st v : Int) : (tl si so s pc st).set 24 (.int .i64 v) = tl si so s pc v := rfl
theorem tl_in (si so v : Value) (s : A.Regs) (pc st : Int) : (tl si so s pc st).set 0 v = tl v so s pc st := rfl
theorem tl_out (si so v : Value) (s : A.Regs) (pc st : Int) : (tl si so s pc st).set 1 v = tl si v s pc st := rfl
theorem tl_len (si so : Value) (s : A.Regs) (pc st : Int) : (tl si so s pc st).length = 25 := rfl
theorem tl_at (si so : Value) (s : A.Regs) (pc st : Int) (k : Nat) (v : Value) (h : (A.cells s).toList[k]? = some v) : (tl si so s pc st)[2 + k]? = some v := by
  have hk : k < 21 := by
    rcases Nat.lt_or_ge k 21 with h1 | h1
    · exact h1
    · rw [List.getElem?_eq_none (by simp; omega)] at h; cases h
  have e : (tl si so s pc st) = [si, so] ++ ((A.cells s).toList ++ [.int .u32 pc, .int .i64 st]) := rfl
  rw [e, List.getElem?_append_right (by simp), show 2 + k - ([si, so] : List Value).length = k by simp, List.getElem?_append_left (by simp; omega)]
  exact h
/-- the outputs: none, or a row of the machine's own -/
def Outs (A : Option Addr) (n c : Nat) (xs : List Int) (w : World) : Prop := w.ownsRow 0 39 1 (.slice A n c) n (xs.map (Value.int .u32))
end X
/-- the block B is the machine x; all that it may turn lies in F -/
structure MacAt (F : Nat → Prop) (B : Nat) (x : X.St) (ai : Option Addr) (ni ci : Nat) (ao : Option Addr) (no co : Nat) (w : World) : Prop where
  sub : ∀ k, F k → k < w.heap.size
  inB : F B
  mem : MemT 77 (X.tl (.slice ai ni ci) (.slice ao no co) x.s x.pc x.st) B x.ws w
  ins : Ws w ai ni ci x.ins
  insF : ∀ ad, ai = some ad → 0 < ni → F ad.block ∧ ad.block ≠ B ∧ ∀ bd, ao = some bd → ad.block ≠ bd.block
  out : X.Outs ao no co x.outs w
  outF : ∀ ad, ao = some ad → F ad.block ∧ ad.block ≠ B
  ok : A.Ok x.s
  pc0 : 0 ≤ x.pc
  pc1 : x.pc < 4294967296
  rng : ∀ y ∈ x.outs, 0 ≤ y ∧ y < 4294967296
def Mac (F : Nat → Prop) (B : Nat) (x : X.St) (w : World) : Prop := ∃ ai ni ci ao no co, MacAt F B x ai ni ci ao no co w
theorem X.Outs.len {A : Option Addr} {n c : Nat} {xs : List Int} {w : World} (h : X.Outs A n c xs w) : xs.length = n := by have := h.1; simpa using this
theorem X.Outs.to {A : Option Addr} {n c : Nat} {xs : List Int} {w w' : World} (h : X.Outs A n c xs w) (hb : ∀ ad, A = some ad → w'.heap[ad.block]? = w.heap[ad.block]?) : X.Outs A n c xs w' := by
  obtain ⟨h1, h2⟩ := h
  refine ⟨h1, ?_⟩
  rcases h2 with h2 | ⟨g, cap, cur, hv, hr⟩
  · exact Or.inl h2
  · obtain ⟨q1, q2, q3⟩ := hr
    cases hv
    exact Or.inr ⟨g, _, cur, rfl, q1, (hb _ rfl).trans q2, q3⟩
theorem X.Outs.ws {A : Option Addr} {n c : Nat} {xs : List Int} {w : World} (h : X.Outs A n c xs w) (hr : ∀ x ∈ xs, 0 ≤ x ∧ x < 4294967296) : Ws w A n c xs := by
  have hl := h.len
  rcases h.2 with ⟨h2, h3⟩ | ⟨g, cap, cur, hv, _⟩
  · cases h2
    have : xs = [] := List.eq_nil_of_length_eq_zero hl
    subst this
    exact Ws.empty w
  · cases hv
    exact Own.ws (base := 0) h hr
theorem MemT.to {t : TypeId} {tl : List Value} {B : Nat} {ws : List Int} {w w' : World} (h : MemT t tl B ws w) (hb : w'.heap[B]? = w.heap[B]?) : MemT t tl B ws w' := by
  obtain ⟨cs, h1, h2⟩ := h.has; exact ⟨h.len, h.rng, cs, hb.trans h1, h2⟩
/-- another's step leaves a machine -/
theorem MacAt.turn {F G : Nat → Prop} {B : Nat} {x : X.St} {ai : Option Addr} {ni ci : Nat} {ao : Option Addr} {no co : Nat} {w w' : World} (h : MacAt F B x ai ni ci ao no co w) (hT : Turn G w w') (hd : ∀ k, F k → ¬ G k) : MacAt F B x ai ni ci ao no co w' :=
  ⟨fun k hk => Nat.lt_of_lt_of_le (h.sub k hk) hT.size, h.inB, h.mem.to (hT.block B (h.sub B h.inB) (hd B h.inB)), h.ins.to fun ad e hn => hT.block _ (h.sub _ (h.insF ad e hn).1) (hd _ (h.insF ad e hn).1), h.insF,
    h.out.to fun ad e => hT.block _ (h.sub _ (h.outF ad e).1) (hd _ (h.outF ad e).1), h.outF, h.ok, h.pc0, h.pc1, h.rng⟩
theorem Mac.turn {F G : Nat → Prop} {B : Nat} {x : X.St} {w w' : World} (h : Mac F B x w) (hT : Turn G w w') (hd : ∀ k, F k → ¬ G k) : Mac F B x w' := by
  obtain ⟨ai, ni, ci, ao, no, co, h⟩ := h
  exact ⟨ai, ni, ci, ao, no, co, h.turn hT hd⟩
theorem Mac.kept {F : Nat → Prop} {B : Nat} {x : X.St} {w w' : World} (h : Mac F B x w) (hT : Kept w w') : Mac F B x w' := h.turn (hT.turn fun _ => False) fun _ _ h => h
theorem Mac.sub {F : Nat → Prop} {B : Nat} {x : X.St} {w : World} (h : Mac F B x w) : ∀ k, F k → k < w.heap.size := by obtain ⟨_, _, _, _, _, _, h⟩ := h; exact h.sub
theorem Mac.inB {F : Nat → Prop} {B : Nat} {x : X.St} {w : World} (h : Mac F B x w) : F B := by obtain ⟨_, _, _, _, _, _, h⟩ := h; exact h.inB
/-- the machine's own words and cells turned, its inputs and outputs did not -/
theorem MacAt.own {F : Nat → Prop} {B : Nat} {x : X.St} {ai : Option Addr} {ni ci : Nat} {ao : Option Addr} {no co : Nat} {w w' : World} (h : MacAt F B x ai ni ci ao no co w) (hB : But B w w') (ws : List Int) (s : A.Regs) (pc st : Int)
    (hm : MemT 77 (X.tl (.slice ai ni ci) (.slice ao no co) s pc st) B ws w') (ok : A.Ok s) (pc0 : 0 ≤ pc) (pc1 : pc < 4294967296) : MacAt F B ⟨ws, s, pc, st, x.ins, x.outs⟩ ai ni ci ao no co w' :=
  ⟨fun k hk => Nat.lt_of_lt_of_le (h.sub k hk) hB.size, h.inB, hm, h.ins.but hB fun ad e hn => (h.insF ad e hn).2.1, h.insF,
    h.out.to fun ad e => hB.block _ (h.sub _ (h.outF ad e).1) (h.outF ad e).2, h.outF, ok, pc0, pc1, h.rng⟩
/-- append of words to outputs -/
theorem append_out {w : World} {ops : Array Oper} {rest : List Oper} {o : Oper} {a : Act} {Q : Exit → Act → World → Prop} (hgd : o.guard = none) (s x : Operand)
    (ho : o.op = .call { callee := .builtin .append, args := #[s, x], argTypes := #[22, 22] }) (A : Option Addr) (n cap : Nat) (xs : List Int) (hs : a.eval s = .slice A n cap) (hown : X.Outs A n cap xs w)
    (ad : Addr) (m c : Nat) (ys : List Int) (hx : a.eval x = .slice (some ad) m c) (hY : Ws w (some ad) m c ys) (hm : 0 < m) (hb : n + m ≤ 1000000000000)
    (h : ∀ A' cap' w', X.Outs A' (n + m) cap' (xs ++ ys) w' → w.grownBy w' (Value.ownBlock (.slice A n cap)) → (∀ bd, A' = some bd → A = some bd ∨ w.heap.size ≤ bd.block) → wpList Try.prog ops Q rest (a.put o.dst (.slice A' (n + m) cap')) w') : wpList Try.prog ops Q (o :: rest) a w := by
  obtain ⟨i0, hi, hz0, hz1, hz2⟩ := info_parts M.info32
  have hl : (ys.map (Value.int .u32)).length = m * 1 := by rw [List.length_map, hY.len, Nat.mul_one]
  have hnews : ∀ j u, (ys.map (Value.int .u32))[j]? = some u → w.cell? (ad.add j) = some u := by
    intro j u hj
    rw [List.getElem?_map, Option.map_eq_some_iff] at hj
    obtain ⟨y, hy, rfl⟩ := hj
    exact hY.cel ad rfl j y hy
  have h1 : ∀ u ∈ ys.map (Value.int .u32), u.oneCell' = true := by
    intro u hu
    obtain ⟨y, _, rfl⟩ := List.mem_map.1 hu
    rfl
  rcases hown.2 with ⟨h2, h3⟩ | ⟨g, cap', cur, hv, _, hg, hle, hcm, hcs, ht⟩
  · cases h2
    have hxs : xs = [] := List.eq_nil_of_length_eq_zero hown.len
    subst hxs
    refine wpList_append_own w hgd s x 22 ho w.heap.size 39 i0 (.int .u32 0) 1 4 Try.underlying22 hi hz0 hz1 hz2 rfl (by decide) _ 0 [] hs (World.ownsRow_nil w _ _ _) ad m c _ hx hl hnews h1 (by unfold maxLen; omega) (by omega) (Nat.le_refl _) ?_
    intro v' w' q1 q2 q3
    rcases q1.2 with ⟨q4, q5⟩ | ⟨g', cap', cur, q4, q5, q6⟩
    · omega
    · subst q4
      refine h _ _ w' ?_ q2 fun bd e => ?_
      · refine ⟨by simpa using q1.1, Or.inr ⟨g', cap', cur, rfl, Nat.zero_le _, ?_⟩⟩
        simpa using q6
      · cases e; exact Or.inr q5
  · cases hv
    rw [Nat.mul_one] at hcs ht
    by_cases room : n + m ≤ cap
    · have hfit : n * i0.size + (ys.map (Value.int .u32)).length ≤ cur.size := by rw [hz1, hl, hcs]; omega
      have hr := fun ty => run_append_room (P := Try.prog) w 22 ty 39 i0 Try.underlying22 hi g n cap cur hg ad m c _ (by rw [hz1]; exact hl) hnews h1 room hfit
      refine wpList_plain hgd fun _ hK => ?_
      unfold Oper.wp execOp
      simp only [ho, resolve, invoke, builtin, Sem.run_bind, Sem.run_pure, Result.andThen_ok, List.map_toArray, List.map_cons, List.map_nil, hs, hx, hr]
      refine hK _ _ (h _ _ _ ?_ ?_ fun bd e => Or.inl e)
      · refine ⟨by rw [List.length_map, List.length_append, hown.len, hY.len, Nat.mul_one], Or.inr ⟨g, cap, _, rfl, Nat.zero_le _, setRow_heap w g cur _ _ _ hg, room, hcm, ?_, ?_⟩⟩
        · simp only [List.size_toArray, List.length_append, List.length_take, List.length_drop, Array.length_toList]
          rw [Nat.mul_one]
          omega
        · rw [hz1, Nat.mul_one, Nat.mul_one, ht, ← List.map_append]
          have e : n + m = ((xs ++ ys).map (Value.int .u32)).length := by rw [List.length_map, List.length_append, hown.len, hY.len]
          rw [e]
          exact List.take_left
      · exact ⟨rfl, rfl, rfl, by simp, fun k _ hk => setRow_other w g k _ (fun e => hk (by simp [Value.ownBlock, e]))⟩
    · have holds : ∀ j u, (xs.map (Value.int .u32))[j]? = some u → w.cell? ((⟨g, 0, none⟩ : Addr).add j) = some u := World.ownsRow.cells hown (g := g) rfl
      have hr := fun ty => run_append_grow (P := Try.prog) w 22 ty 39 i0 (.int .u32 0) Try.underlying22 hi hz0 ⟨g, 0, none⟩ n cap _ (by rw [hz1, Nat.mul_one, List.length_map, hown.len]) holds ad m c _ (by rw [hz1]; exact hl) hnews (by omega) (by omega) (growslice_fits (by omega) (by rw [hz2]; omega))
      have hge := grownCap_ge w (n + m) cap 39
      have hcm' : grownCap w (n + m) cap 39 ≤ maxLen := grownCap_le_maxLen w (n + m) cap _ (by unfold maxLen; omega)
      refine wpList_plain hgd fun _ hK => ?_
      unfold Oper.wp execOp
      simp only [ho, resolve, invoke, builtin, Sem.run_bind, Sem.run_pure, Result.andThen_ok, List.map_toArray, List.map_cons, List.map_nil, hs, hx, hr]
      refine hK _ _ (h _ _ _ ?_ ⟨rfl, rfl, rfl, by simp, fun k hk _ => heap_alloc_old w.drew _ hk⟩ fun bd e => Or.inr (by cases e; exact Nat.le_refl _))
      have e : n + m = ((xs ++ ys).map (Value.int .u32)).length := by rw [List.length_map, List.length_append, hown.len, hY.len]
      refine ⟨by rw [Nat.mul_one]; exact e.symm, Or.inr ⟨w.heap.size, _, _, rfl, Nat.zero_le _, heap_alloc_new w.drew _, hge, hcm', ?_, ?_⟩⟩
      · simp only [Array.size_append, List.size_toArray, size_zeroCells, Nat.mul_one, List.length_map, hown.len, hY.len]
        show n + m + (_ - (n + m)) * 1 = _
        omega
      · simp only [Array.toList_append, List.append_assoc]
        rw [← List.append_assoc, Nat.mul_one, ← List.map_append, e]
        exact List.take_left
end Go.Proofs.Ytpfgmfiegnkocaa
