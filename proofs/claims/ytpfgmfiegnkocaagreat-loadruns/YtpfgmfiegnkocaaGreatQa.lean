import Derived.Below
import Derived.BigQuiet
import Derived.BigRegion
import Derived.Carry
import Derived.ChangeAlike
import Derived.ChangeSame
import Derived.Deep.Cut
import Derived.Deep.Draws
import Derived.Deep.MidRow
import Derived.Deep.RegionHeld3
import Derived.Deep.WholeRow
import Derived.Laws.AppendOwnNone
import Derived.Laws.BitsAllLaws
import Derived.Laws.BytesArg
import Derived.Laws.CopyRow
import Derived.Laws.StructEq
import Derived.Lib.AppendStr
import Derived.Lib.BufferWrite
import Derived.Lib.Hide
import Derived.LoopTactic
import Derived.OneCell
import Derived.OpenShut
import Derived.OrdersHeld
import Derived.OwnWalk
import Derived.RegionTactic
import Derived.RowKit
import Derived.RowKit3
import Derived.StillTailTactics
import Derived.Test.YtpfgmfiegnkocaaGreatRows
import Derived.WalkKit
import Derived.WalkLawsBesides
import Derived.WalkSpells
import Derived.WideShapes
namespace Go.Proofs.YtpfgmfiegnkocaaGreat
abbrev eD (n : Nat) : Edge := { on := n, ground := Ground.data }
abbrev eP (n : Nat) : Edge := { on := n, ground := Ground.phase }
abbrev eC (n : Nat) : Edge := { on := n, ground := Ground.chain }
abbrev eG (n : Nat) : Edge := { on := n, ground := Ground.guard }
abbrev eL (n : Nat) : Edge := { on := n, ground := Ground.gcOnly Departure.lateStores }
abbrev eT (n : Nat) : Edge := { on := n, ground := Ground.textOnly Departure.lateStores }
section
variable {P : Program} {ops : Array Oper} {Q : Exit → Act → World → Prop} {md : Region.Mode} {S : World → Prop}
theorem tk (i : Nat) (oi : Oper) {v : Value} {fuel : Nat} {listed : Array Bool} {a : Act} {w : World} (hS : S w) (hy : ∀ w, S w → (execOp a.eval oi).run P w = .ok (.value v) w)
    (h : wpAnyH P md ops Q S fuel (listed.setIfInBounds i true) (a.put oi.dst v) w) (hi : ops.toList[i]? = some oi := by rfl) (hw : Region.wanted oi (yielded ops a.tmps) = true := by rfl)
    (hs : Region.noSelect ops = true := by kernel_rfl) (hf : Region.free md ops listed i = true := by kernel_rfl) (hr : (Region.ready md ops listed).contains i = true := by kernel_rfl)
    (hQ : ∀ c a w, Q (.panic c) (a.put oi.dst v) w → Q (.panic c) a w := by exact fun _ _ _ h => h) : wpAnyH P md ops Q S (fuel + 1) listed a w :=
  wpAnyH_take (by rw [← Array.getElem?_toList]; exact hi) hs hf hr hQ (Or.inl ⟨hw, hy⟩) hS h
theorem tu (i : Nat) (oi : Oper) {fuel : Nat} {listed : Array Bool} {a : Act} {w : World} (hS : S w)
    (h : wpAnyH P md ops Q S fuel (listed.setIfInBounds i true) (a.put oi.dst undef) w) (hi : ops.toList[i]? = some oi := by rfl) (hw : Region.wanted oi (yielded ops a.tmps) = false := by rfl)
    (hs : Region.noSelect ops = true := by kernel_rfl) (hf : Region.free md ops listed i = true := by kernel_rfl) (hr : (Region.ready md ops listed).contains i = true := by kernel_rfl)
    (hQ : ∀ c a w, Q (.panic c) (a.put oi.dst undef) w → Q (.panic c) a w := by exact fun _ _ _ h => h) : wpAnyH P md ops Q S (fuel + 1) listed a w :=
  wpAnyH_take (by rw [← Array.getElem?_toList]; exact hi) hs hf hr hQ (Or.inr ⟨hw, rfl⟩) hS h
end
theorem pq {α : Type _} : (∀ (l : List α) (i : Nat) (a : α), l.toArray.setIfInBounds i a = (l.set i a).toArray) ∧ (∀ (x y : α) (l : List α), (x :: l).set 0 y = y :: l) ∧ (∀ (x y : α) (l : List α) (n : Nat), (x :: l).set (n + 1) y = x :: l.set n y) :=
  ⟨fun l i a => by simp, fun _ _ _ => rfl, fun _ _ _ _ => rfl⟩
end Go.Proofs.YtpfgmfiegnkocaaGreat
namespace Go.Proofs.YtpfgmfiegnkocaaGreat
open Go.RowKit
set_option linter.unusedVariables false
set_option linter.unusedSimpArgs false
set_option maxRecDepth 100000
structure Kept (w w' : World) : Prop where
 below : Below w.heap.size w w'
 froze : ∀ a, w'.frozen? a = w.frozen? a
theorem Kept.refl (w : World) : Kept w w := ⟨Below.refl _ _, fun _ => rfl⟩
theorem Kept.trans {a b c : World} (h : Kept a b) (k : Kept b c) : Kept a c :=
 ⟨h.below.trans (k.below.mono h.below.size), fun x => (k.froze x).trans (h.froze x)⟩
theorem Kept.drew {a b : World} (h : Kept a b) : Kept a b.drew := ⟨h.below.drew, h.froze⟩
theorem Kept.drewN {a b : World} (h : Kept a b) (n : Nat) : Kept a (b.drewN n) := ⟨⟨h.below.os, h.below.tape, h.below.output, h.below.size, h.below.block⟩, h.froze⟩
theorem Kept.alloc {a b : World} (h : Kept a b) (c : Array Value) (t : TypeId) : Kept a (b.alloc (.cells c t)) :=
 ⟨h.below.alloc h.below.size _, fun x => (frozen?_alloc_cells _ _ _ x).trans (h.froze x)⟩
theorem Kept.setCell {a b : World} (h : Kept a b) {p : Addr} (hp : a.heap.size ≤ p.block) (v : Value) : Kept a (b.setCell p v) :=
 ⟨h.below.setCell hp v, fun x => (World.frozen?_setCell _ _ _ _).trans (h.froze x)⟩
theorem Kept.grown {a b : World} (h : Kept a b) : Grown a b := ⟨h.below.frame _, h.froze, h.below.size⟩
theorem Kept.cell {a b : World} (h : Kept a b) {p : Addr} (hp : p.block < a.heap.size) : b.cell? p = a.cell? p := h.below.cell hp
theorem Kept.size {a b : World} (h : Kept a b) : a.heap.size ≤ b.heap.size := h.below.size
theorem Kept.block {a b : World} (h : Kept a b) {k : Nat} {o : Obj} (hk : a.heap[k]? = some o) : b.heap[k]? = some o := (h.below.block k (lt_of_block hk)).trans hk
structure KeptB (B : Nat) (w w' : World) : Prop where
 below : Below B w w'
 froze : ∀ a, w'.frozen? a = w.frozen? a
theorem KeptB.refl (B : Nat) (w : World) : KeptB B w w := ⟨Below.refl _ _, fun _ => rfl⟩
theorem KeptB.trans {B : Nat} {a b c : World} (h : KeptB B a b) (k : KeptB B b c) : KeptB B a c :=
 ⟨h.below.trans k.below, fun x => (k.froze x).trans (h.froze x)⟩
theorem KeptB.drew {B : Nat} {a b : World} (h : KeptB B a b) : KeptB B a b.drew := ⟨h.below.drew, h.froze⟩
theorem KeptB.setCell {B : Nat} {a b : World} (h : KeptB B a b) {p : Addr} (hp : B ≤ p.block) (v : Value) : KeptB B a (b.setCell p v) :=
 ⟨h.below.setCell hp v, fun x => (World.frozen?_setCell _ _ _ _).trans (h.froze x)⟩
theorem Kept.transB {B : Nat} {a b c : World} (h : Kept a b) (k : KeptB B b c) (hB : a.heap.size ≤ B) : Kept a c :=
 ⟨h.below.trans (k.below.mono hB), fun x => (k.froze x).trans (h.froze x)⟩
theorem heap_alloc_last (w : World) (o : Obj) : (w.alloc o).heap[w.heap.size]? = some o := by
 show (w.heap.push o)[w.heap.size]? = _
 rw [Array.getElem?_push, if_pos rfl]
theorem heap_alloc_keep {w : World} {b : Nat} {o : Obj} (h : w.heap[b]? = some o) (o' : Obj) : (w.alloc o').heap[b]? = some o :=
 (Below.heap_alloc w o' b (lt_of_block h)).trans h
theorem heap_setCell_keep {w : World} {b : Nat} {o : Obj} (h : w.heap[b]? = some o) {p : Addr} (hp : b ≠ p.block) (v : Value) : (w.setCell p v).heap[b]? = some o :=
 (Below.heap_setCell w p v b hp).trans h
theorem r1 {k : IntKind} {a b : Int} {w : World} (h : a = b) : Ending.returned (.int k a) = .returned (.int k b) ∧ w = w := ⟨by rw [h], rfl⟩
theorem r1b {a b : Bool} {w : World} (h : a = b) : Ending.returned (.bool a) = .returned (.bool b) ∧ w = w := ⟨by rw [h], rfl⟩
theorem r1k {k : IntKind} {a b : Int} {w w' : World} (h : a = b) (hk : Kept w w') : Ending.returned (.int k a) = .returned (.int k b) ∧ Kept w w' := ⟨by rw [h], hk⟩
theorem r1bk {a b : Bool} {w w' : World} (h : a = b) (hk : Kept w w') : Ending.returned (.bool a) = .returned (.bool b) ∧ Kept w w' := ⟨by rw [h], hk⟩
def Ch.prev (ss : List Int) : Nat → Int
 | 0 => -1
 | k + 1 => ss.getD k 0
def Ch.OkAt (m : Nat) (ss : List Int) (k : Nat) : Prop := Ch.prev ss k < ss.getD k 0 ∧ ss.getD k 0 < (m : Int) ∧ ss.getD k 0 ≤ 65534
instance (m : Nat) (ss : List Int) (k : Nat) : Decidable (Ch.OkAt m ss k) := inferInstanceAs (Decidable (_ ∧ _ ∧ _))
def Ch.Rises (m : Nat) (ss : List Int) : Prop := ∀ k, k < ss.length → Ch.OkAt m ss k
instance (m : Nat) (ss : List Int) : Decidable (Ch.Rises m ss) := Nat.decidableBallLT ss.length (fun k _ => Ch.OkAt m ss k)
def Ch.val (ws ss : List Int) (k : Nat) : Int := ws.getD (ss.getD k 0).toNat 0
def Ch.Fits (ws ss : List Int) : Prop := ∀ k, k < ss.length → Ch.val ws ss k ≤ 65535
instance (ws ss : List Int) : Decidable (Ch.Fits ws ss) := Nat.decidableBallLT ss.length (fun k _ => Ch.val ws ss k ≤ 65535)
def Ch.pk (ws ss : List Int) : Nat → List Int
 | 0 => ws
 | k + 1 => (Ch.pk ws ss k).set (ss.getD k 0).toNat (Ch.val ws ss k * 65536 + (Ch.prev ss k + 1))
def Ch.pE (ws ss : List Int) : Int := if Ch.Rises ws.length ss then (if Ch.Fits ws ss then 0 else 8) else 7
def Ch.pH (ws ss : List Int) : Int := if Ch.pE ws ss = 0 then Ch.prev ss ss.length + 1 else 0
def Ch.pW (ws ss : List Int) : List Int := if Ch.pE ws ss = 0 then Ch.pk ws ss ss.length else []
def Ch.lk (ws : List Int) (s : Nat) : Nat := (ws.getD s 0 % 65536).toNat
def Ch.chn (ws : List Int) : Nat → Nat → Option (List Nat)
 | _, 0 => some []
 | 0, _ + 1 => none
 | f + 1, s + 1 => if Ch.lk ws s ≤ s then (Ch.chn ws f (Ch.lk ws s)).map (s :: ·) else none
def Ch.U (ws : List Int) (h : Nat) : Option (List Nat) := Ch.chn ws h h
def Ch.un (ws : List Int) (d : List Nat) : List Int := d.foldl (fun v s => v.set s (ws.getD s 0 / 65536)) ws
def Ch.R (ws : List Int) (head : Int) : Option (List Nat) := if 0 ≤ head ∧ head ≤ (ws.length : Int) then Ch.U ws head.toNat else none
def Ch.uE (r : Option (List Nat)) : Int := match r with | none => 10 | some _ => 0
def Ch.uW (ws : List Int) (r : Option (List Nat)) : List Int := match r with | none => [] | some d => Ch.un ws d
def Ch.uS (r : Option (List Nat)) : List Int := match r with | none => [] | some d => d.reverse.map Int.ofNat
theorem Ch.prev_ge {m : Nat} {ss : List Int} (h : Ch.Rises m ss) : ∀ k, k ≤ ss.length → -1 ≤ Ch.prev ss k
 | 0, _ => Int.le_refl _
 | k + 1, hk => by
   have h1 := Ch.prev_ge h k (by omega)
   have h2 := (h k (by omega)).1
   show -1 ≤ ss.getD k 0
   omega
theorem Ch.at_ge {m : Nat} {ss : List Int} (h : Ch.Rises m ss) (k : Nat) (hk : k < ss.length) : 0 ≤ ss.getD k 0 ∧ ss.getD k 0 < (m : Int) ∧ ss.getD k 0 ≤ 65534 := by
 have h1 := Ch.prev_ge h k (by omega)
 obtain ⟨h2, h3, h4⟩ := h k hk
 exact ⟨by omega, h3, h4⟩
theorem Ch.mono {m : Nat} {ss : List Int} (h : Ch.Rises m ss) (i : Nat) : ∀ j, i < j → j < ss.length → ss.getD i 0 < ss.getD j 0
 | 0, hij, _ => by omega
 | j + 1, hij, hj => by
   have h1 : ss.getD j 0 < ss.getD (j + 1) 0 := (h (j + 1) hj).1
   rcases Nat.lt_or_ge i j with h2 | h2
   · have := Ch.mono h i j h2 (by omega); omega
   · rw [show i = j by omega]; exact h1
theorem Ch.prev_lt {m : Nat} {ss : List Int} (h : Ch.Rises m ss) : ∀ k, k ≤ ss.length → Ch.prev ss k < (m : Int) ∧ Ch.prev ss k ≤ 65534
 | 0, _ => by show (-1 : Int) < m ∧ (-1 : Int) ≤ 65534; omega
 | k + 1, hk => (h k (by omega)).2
theorem Ch.getD_set {l : List Int} {i j : Nat} {x : Int} : (l.set i x).getD j 0 = if i = j ∧ j < l.length then x else l.getD j 0 := by
 simp only [List.getD_eq_getElem?_getD, List.getElem?_set]
 by_cases h : i = j
 · subst h
   by_cases h2 : i < l.length
   · simp [h2]
   · simp [h2]
 · simp [h]
def Ch.Has (P ss : List Int) : Prop := ∀ j, j < ss.length → (P.getD (ss.getD j 0).toNat 0) % 65536 = Ch.prev ss j + 1
def Ch.down (ss : List Int) (k : Nat) : List Nat := ((ss.take k).map Int.toNat).reverse
theorem Ch.prev_append (a b : List Int) : ∀ k, k ≤ a.length → Ch.prev (a ++ b) k = Ch.prev a k
 | 0, _ => rfl
 | k + 1, hk => by
   show (a ++ b).getD k 0 = a.getD k 0
   rw [List.getD_eq_getElem?_getD, List.getD_eq_getElem?_getD, List.getElem?_append_left (by omega)]
theorem Ch.getD_last (a : List Int) (x : Int) : (a ++ [x]).getD a.length 0 = x := by
 rw [List.getD_eq_getElem?_getD, List.getElem?_append_right (Nat.le_refl _)]; simp
theorem Ch.getD_left (a b : List Int) (k : Nat) (hk : k < a.length) : (a ++ b).getD k 0 = a.getD k 0 := by
 rw [List.getD_eq_getElem?_getD, List.getD_eq_getElem?_getD, List.getElem?_append_left hk]
def HasN (B n : Nat) (t : TypeId) (w : World) : Prop := ∃ cs : Array Value, cs.size = n ∧ w.heap[B]? = some (.cells cs t (0, 0))
def Has (B : Nat) (cs : Array Value) (t : TypeId) (w : World) : Prop := w.heap[B]? = some (.cells cs t (0, 0))
theorem Has.new (cs : Array Value) (t : TypeId) (w : World) : Has w.heap.size cs t (w.alloc (.cells cs t)) := heap_alloc_last _ _
theorem Has.new1 (cs : Array Value) (t : TypeId) (w : World) (o : Obj) : Has (w.heap.size + 1) cs t ((w.alloc o).alloc (.cells cs t)) := by
 have := Has.new cs t (w.alloc o)
 rwa [show (w.alloc o).heap.size = w.heap.size + 1 by simp] at this
theorem Has.new2 (cs : Array Value) (t : TypeId) (w : World) (o o' : Obj) : Has (w.heap.size + 2) cs t (((w.alloc o).alloc o').alloc (.cells cs t)) := by
 have := Has.new cs t ((w.alloc o).alloc o')
 rwa [show ((w.alloc o).alloc o').heap.size = w.heap.size + 2 by simp] at this
theorem Has.alloc {B : Nat} {cs : Array Value} {t : TypeId} {w : World} (h : Has B cs t w) (o : Obj) : Has B cs t (w.alloc o) := heap_alloc_keep h _
theorem Has.drew {B : Nat} {cs : Array Value} {t : TypeId} {w : World} (h : Has B cs t w) : Has B cs t w.drew := h
theorem Has.kept {B : Nat} {cs : Array Value} {t : TypeId} {w w' : World} (h : Has B cs t w) (hK : Kept w w') : Has B cs t w' := hK.block h
theorem Has.other {B : Nat} {cs : Array Value} {t : TypeId} {w : World} (h : Has B cs t w) {p : Addr} (hp : B ≠ p.block) (v : Value) : Has B cs t (w.setCell p v) := heap_setCell_keep h hp v
theorem Has.set {B : Nat} {cs : Array Value} {t : TypeId} {w : World} (h : Has B cs t w) (j : Nat) (v : Value) : Has B (cs.setIfInBounds j v) t (w.setCell ⟨B, j, none⟩ v) := heap_setCell_same w B j cs t v h
theorem Has.row {B : Nat} {cs : Array Value} {t : TypeId} {w : World} (h : Has B cs t w) (cs' : Array Value) : Has B cs' t (w.setRow B cs') := setRow_heap w B cs _ t _ h
theorem Has.rowOther {B B' : Nat} {cs : Array Value} {t : TypeId} {w : World} (h : Has B cs t w) (hB : B ≠ B') (cs' : Array Value) : Has B cs t (w.setRow B' cs') := (setRow_other w B' B cs' hB).trans h
theorem Has.hasN {B : Nat} {cs : Array Value} {t : TypeId} {w : World} (h : Has B cs t w) : HasN B cs.size t w := ⟨cs, rfl, h⟩
theorem HasN.kept {B n : Nat} {t : TypeId} {w w' : World} (h : HasN B n t w) (hK : Kept w w') : HasN B n t w' := by obtain ⟨cs, e, h⟩ := h; exact ⟨cs, e, hK.block h⟩
theorem Has.cell {B : Nat} {cs : Array Value} {t : TypeId} {w : World} (h : Has B cs t w) (j : Nat) (v : Value) (hj : cs[j]? = some v) : w.cell? ⟨B, j, none⟩ = some v := (cell_of_row w B j cs t _ h).trans hj
theorem Has.free {B : Nat} {cs : Array Value} {t : TypeId} {w : World} (h : Has B cs t w) (j : Nat) : w.frozen? ⟨B, j, none⟩ = false := frozen_of_row w B j cs t h
theorem Has.lt {B : Nat} {cs : Array Value} {t : TypeId} {w : World} (h : Has B cs t w) : B < w.heap.size := lt_of_block h
theorem Has.below {B : Nat} {cs : Array Value} {t : TypeId} {w w' : World} (h : Has B cs t w) (hb : Below w.heap.size w w') : Has B cs t w' := (hb.block B h.lt).trans h
theorem Bel.drewN {N : Nat} {a b : World} (h : Below N a b) (n : Nat) : Below N a (b.drewN n) := ⟨h.os, h.tape, h.output, h.size, h.block⟩
theorem Has.range {B : Nat} {cs : Array Value} {t : TypeId} {w : World} (h : Has B cs t w) (o n : Nat) : w.rangeAt B o (cs.extract o (o + n)).toList := World.rangeAt_of_block h o n
theorem Kept.row {a b : World} (h : Kept a b) {B : Nat} (hB : a.heap.size ≤ B) (cs : Array Value) : Kept a (b.setRow B cs) := by
 refine ⟨⟨h.below.os, h.below.tape, h.below.output, ?_, ?_⟩, ?_⟩
 · simp [World.setRow]; exact h.below.size
 · intro k hk
   rw [setRow_other b B k cs (by omega)]; exact h.below.block k hk
 · intro x
   rw [← h.froze x]
   simp only [World.frozen?, World.setRow, Array.getElem?_modify]
   by_cases e : B = x.block
   · subst e
     simp only [if_true]
     generalize b.heap[x.block]? = o
     cases o with
     | none => rfl
     | some o => cases o <;> rfl
   · simp [e]
section
variable {P : Program} {ops : Array Oper} {rest : List Oper} {o : Oper} {a : Act} {Q : Exit → Act → World → Prop}
theorem load_has {w : World} (hgd : o.guard = none) (ty : TypeId) (x : Operand) (ho : o.op = .load ty x) (g : Nat) (hx : a.eval x = .pointer (some ⟨g, 0, none⟩)) {t : TypeId} {cs : Array Value} {d : TypeDesc} (hg : Has g cs t w)
 (hu : P.underlying ty = some d) (hd : (match d with | .struct _ | .array _ _ => true | _ => false) = true) (hi : (P.info? ty).map (·.size) = some cs.size)
 (h : wpList P ops Q rest (a.put o.dst (.agg cs)) w) : wpList P ops Q (o :: rest) a w := wpList_load_row hgd ty x ho g hx t cs (0, 0) d hg hu hd hi h
theorem load_part {w : World} (hgd : o.guard = none) (ty : TypeId) (x : Operand) (ho : o.op = .load ty x) (g j : Nat) (hx : a.eval x = .pointer (some ⟨g, j, none⟩)) {t : TypeId} {cs : Array Value} (ps : Array Value) {d : TypeDesc} (hg : Has g cs t w)
 (hp : cs.extract j (j + ps.size) = ps) (hu : P.underlying ty = some d) (hd : d.isRow = true) (hi : (P.info? ty).map (·.size) = some ps.size)
 (h : wpList P ops Q rest (a.put o.dst (.agg ps)) w) : wpList P ops Q (o :: rest) a w :=
 wpList_load_mid hgd ty x ho g j hx ps.toList d (by have := hg.range j ps.size; rw [hp] at this; exact this) hu hd (by simpa using hi) (by simpa using h)
theorem store_last {w : World} (hgd : o.guard = none) (ty : TypeId) (x y : Operand) (ho : o.op = .store ty x y) (g : Nat) (cells : Array Value) (hx : a.eval x = .pointer (some ⟨g, 0, none⟩)) (hy : a.eval y = .agg cells)
 {t : TypeId} {old : Array Value} (hg : g = w.heap.size) (hi : (P.info? ty).map (·.size) = some cells.size) (hold : old.size = cells.size) (h1 : cells.all (·.oneCell') = true)
 (h : wpList P ops Q rest (a.put o.dst undef) (w.alloc (.cells cells t))) : wpList P ops Q (o :: rest) a (w.alloc (.cells old t)) := by
 subst hg
 exact wpList_store_row hgd ty x y ho _ cells hx hy t old (heap_alloc_last _ _) hi hold h1 (by rw [World.setRow_alloc_new]; exact h)
theorem store_has {w : World} (hgd : o.guard = none) (ty : TypeId) (x y : Operand) (ho : o.op = .store ty x y) (g : Nat) (cells : Array Value) (hx : a.eval x = .pointer (some ⟨g, 0, none⟩)) (hy : a.eval y = .agg cells)
 {t : TypeId} {old : Array Value} (hg : Has g old t w) (hi : (P.info? ty).map (·.size) = some cells.size) (hold : old.size = cells.size) (h1 : cells.all (·.oneCell') = true)
 (h : wpList P ops Q rest (a.put o.dst undef) (w.setRow g cells)) : wpList P ops Q (o :: rest) a w :=
 wpList_store_row hgd ty x y ho g cells hx hy t old hg hi hold h1 h
def shapeOf (P : Program) (t : TypeId) : Option (Array Value × List (Nat × Nat)) :=
 match P.info? t, P.underlying t with
 | some it, some (.struct fields) =>
   match it.zero, fields.toList.mapM (fun f => (P.info? f.type).map fun i => (f.offset, i.size)) with
   | some z, some places => some (z.cells, places)
   | _, _ => none
 | _, _ => none
theorem built_of {P : Program} {t : TypeId} {z : Array Value} {places : List (Nat × Nat)} (h : shapeOf P t = some (z, places)) (parts : List (Nat × Value)) :
 P.built t parts = Instr.fill (places.toArray[·]?) z parts := by
 unfold shapeOf at h
 unfold Program.built
 cases h1 : P.info? t with
 | none => simp [h1] at h
 | some it =>
   cases h2 : P.underlying t with
   | none => simp [h1, h2] at h
   | some d =>
     cases d <;> simp only [h1, h2] at h ⊢ <;> try (cases h; done)
     split at h
     · rename_i z' p' e1 e2
       simp only [Option.some.injEq, Prod.mk.injEq] at h
       obtain ⟨rfl, rfl⟩ := h
       simp only [e1, e2]
     · cases h
theorem build_has {w : World} (hgd : o.guard = none) (t : TypeId) (parts : Array (Nat × Operand)) (ho : o.op = .build t parts) (cs : Array Value)
 (hf : P.built t (parts.map fun (i, x) => (i, a.eval x)).toList = some cs) (h : wpList P ops Q rest (a.put o.dst (.agg cs)) w) : wpList P ops Q (o :: rest) a w :=
 wpList_build hgd t parts ho (by rw [hf]; rfl) (by rw [hf]; exact h)
theorem exec_load_has {w : World} (ty : TypeId) (x : Operand) (ho : o.op = .load ty x) (g : Nat) (hx : a.eval x = .pointer (some ⟨g, 0, none⟩)) {t : TypeId} {cs : Array Value} {d : TypeDesc} (hg : Has g cs t w)
 (hu : P.underlying ty = some d) (hd : (match d with | .struct _ | .array _ _ => true | _ => false) = true) (hi : (P.info? ty).map (·.size) = some cs.size) :
 (execOp a.eval o).run P w = .ok (.value (.agg cs)) w := by
 unfold execOp
 simp only [ho, hx, Instr.loadAt, Instr.sureAddr, Sem.run_bind, Sem.run_pure, Result.andThen_ok, run_loadVar_row w g t ty cs (0, 0) d hg hu hd hi]
theorem exec_build {w : World} (t : TypeId) (parts : Array (Nat × Operand)) (ho : o.op = .build t parts) (cs : Array Value)
 (hf : P.built t (parts.map fun (i, x) => (i, a.eval x)).toList = some cs) : (execOp a.eval o).run P w = .ok (.value (.agg cs)) w := by
 unfold execOp
 simp only [ho, Sem.run_bind, Sem.run_pure, Result.andThen_ok, run_build w t _ cs hf]
theorem run_sizeOf {P : Program} {e : TypeId} {m : Nat} (hs : (P.info? e).map (·.size) = some m) (w : World) : (sizeOf e).run P w = .ok m w := by
 cases hq : P.info? e with
 | none => simp [hq] at hs
 | some i =>
   have : i.size = m := by simpa [hq] using hs
   simp [sizeOf, typeInfo, hq, this]
theorem run_isAgg {P : Program} {e : TypeId} {d : TypeDesc} (he : P.underlying e = some d) (w : World) : (isAgg e).run P w = .ok d.isRow w := by
 unfold isAgg
 rw [Sem.run_bind, run_underlying he w]
 cases d <;> simp [TypeDesc.isRow]
theorem run_index_cell {P : Program} {t e : TypeId} {n : Nat} {d : TypeDesc} {cs : Array Value} {k : IntKind} {i : Int} {v : Value} (hu : P.underlying t = some (.array n e)) (h0 : 0 ≤ i) (h1 : i < n) (he : P.underlying e = some d) (hd : d.isRow = false)
 (hs : (P.info? e).map (·.size) = some 1) (hc : cs[i.toNat]? = some v) (w : World) : (Instr.index t (.agg cs) (.int k i)).run P w = .ok v w := by
 have ha := run_isAgg he w
 rw [hd] at ha
 simp [Instr.index, asIntOf, Sem.run_bind, run_underlying hu, h0, h1, run_sizeOf hs, part, ha, hc]
theorem run_index_row {P : Program} {t e : TypeId} {n m : Nat} {d : TypeDesc} {cs ps : Array Value} {k : IntKind} {i : Int} (hu : P.underlying t = some (.array n e)) (h0 : 0 ≤ i) (h1 : i < n) (he : P.underlying e = some d) (hd : d.isRow = true)
 (hs : (P.info? e).map (·.size) = some m) (hc : cs.extract (i.toNat * m) (i.toNat * m + m) = ps) (w : World) : (Instr.index t (.agg cs) (.int k i)).run P w = .ok (.agg ps) w := by
 have ha := run_isAgg he w
 rw [hd] at ha
 simp [Instr.index, asIntOf, Sem.run_bind, run_underlying hu, h0, h1, run_sizeOf hs, part, ha, hc]
theorem index_cell {w : World} (hgd : o.guard = none) (t : TypeId) (x ix : Operand) (ho : o.op = .index t x ix) (cs : Array Value) (k : IntKind) (i : Int) (hx : a.eval x = .agg cs) (hix : a.eval ix = .int k i) {e : TypeId} {n : Nat} {d : TypeDesc} {v : Value}
 (hu : P.underlying t = some (.array n e)) (h0 : 0 ≤ i) (h1 : i < n) (he : P.underlying e = some d) (hd : d.isRow = false) (hs : (P.info? e).map (·.size) = some 1) (hc : cs[i.toNat]? = some v)
 (h : wpList P ops Q rest (a.put o.dst v) w) : wpList P ops Q (o :: rest) a w :=
 wpList_plain hgd fun _ hK => by
  unfold Oper.wp execOp
  simp only [ho, hx, hix, Sem.run_bind, run_index_cell hu h0 h1 he hd hs hc, Result.andThen_ok, Sem.run_pure]
  exact hK _ _ h
theorem index_row {w : World} (hgd : o.guard = none) (t : TypeId) (x ix : Operand) (ho : o.op = .index t x ix) (cs : Array Value) (k : IntKind) (i : Int) (hx : a.eval x = .agg cs) (hix : a.eval ix = .int k i) {e : TypeId} {n m : Nat} {d : TypeDesc} {ps : Array Value}
 (hu : P.underlying t = some (.array n e)) (h0 : 0 ≤ i) (h1 : i < n) (he : P.underlying e = some d) (hd : d.isRow = true) (hs : (P.info? e).map (·.size) = some m) (hc : cs.extract (i.toNat * m) (i.toNat * m + m) = ps)
 (h : wpList P ops Q rest (a.put o.dst (.agg ps)) w) : wpList P ops Q (o :: rest) a w :=
 wpList_plain hgd fun _ hK => by
  unfold Oper.wp execOp
  simp only [ho, hx, hix, Sem.run_bind, run_index_row hu h0 h1 he hd hs hc, Result.andThen_ok, Sem.run_pure]
  exact hK _ _ h
theorem results_has {fn : Func} {p : Tmp} {ty : TypeId} (h : fn.results = #[.cell p ty]) {tmps : Array Value} {w : World} (g : Nat) {t : TypeId} {cs : Array Value} {d : TypeDesc}
 (hp : tmps.getD p undef = .pointer (some ⟨g, 0, none⟩)) (hg : Has g cs t w)
 (hu : P.underlying ty = some d) (hd : (match d with | .struct _ | .array _ _ => true | _ => false) = true) (hi : (P.info? ty).map (·.size) = some cs.size) :
 (results fn tmps).run P w = .ok (.agg cs) w := results_cell_row h tmps w g t cs (0, 0) d hp hg hu hd hi
theorem results_has2 {fn : Func} {p q : Tmp} {ty : TypeId} (h : fn.results = #[.cell p ty, .tmp q]) {tmps : Array Value} {w : World} (g : Nat) {t : TypeId} {cs : Array Value} {d : TypeDesc}
 (hp : tmps.getD p undef = .pointer (some ⟨g, 0, none⟩)) (hg : Has g cs t w)
 (hu : P.underlying ty = some d) (hd : (match d with | .struct _ | .array _ _ => true | _ => false) = true) (hi : (P.info? ty).map (·.size) = some cs.size) :
 (results fn tmps).run P w = .ok (.tuple #[.agg cs, tmps.getD q undef]) w := by
 have hp' : tmps[p]?.getD undef = .pointer (some ⟨g, 0, none⟩) := by simpa using hp
 simp [results, h, hp', asAddr, run_loadVar_row w g t ty cs (0, 0) d hg hu hd hi]
theorem results_has3 {fn : Func} {p q r : Tmp} {ty : TypeId} (h : fn.results = #[.cell p ty, .tmp q, .tmp r]) {tmps : Array Value} {w : World} (g : Nat) {t : TypeId} {cs : Array Value} {d : TypeDesc}
 (hp : tmps.getD p undef = .pointer (some ⟨g, 0, none⟩)) (hg : Has g cs t w)
 (hu : P.underlying ty = some d) (hd : (match d with | .struct _ | .array _ _ => true | _ => false) = true) (hi : (P.info? ty).map (·.size) = some cs.size) :
 (results fn tmps).run P w = .ok (.tuple #[.agg cs, tmps.getD q undef, tmps.getD r undef]) w := by
 have hp' : tmps[p]?.getD undef = .pointer (some ⟨g, 0, none⟩) := by simpa using hp
 simp [results, h, hp', asAddr, run_loadVar_row w g t ty cs (0, 0) d hg hu hd hi]
end
end Go.Proofs.YtpfgmfiegnkocaaGreat
namespace Go.Proofs.YtpfgmfiegnkocaaGreat
open Go.RowKit
variable {tyM : TypeId} {tlM : List Value}
set_option linter.unusedVariables false
set_option linter.unusedSimpArgs false
set_option maxRecDepth 100000
structure But (B : Nat) (w w' : World) : Prop where
 os : w'.os = w.os
 tape : w'.tape = w.tape
 output : w'.output = w.output
 size : w.heap.size ≤ w'.heap.size
 block : ∀ k, k < w.heap.size → k ≠ B → w'.heap[k]? = w.heap[k]?
 froze : ∀ a, w'.frozen? a = w.frozen? a
theorem But.refl (B : Nat) (w : World) : But B w w := ⟨rfl, rfl, rfl, Nat.le_refl _, fun _ _ _ => rfl, fun _ => rfl⟩
theorem But.trans {B : Nat} {a b c : World} (h : But B a b) (k : But B b c) : But B a c :=
 ⟨k.os.trans h.os, k.tape.trans h.tape, k.output.trans h.output, Nat.le_trans h.size k.size, fun i hi hB => (k.block i (Nat.lt_of_lt_of_le hi h.size) hB).trans (h.block i hi hB), fun x => (k.froze x).trans (h.froze x)⟩
theorem Kept.but {w w' : World} (h : Kept w w') (B : Nat) : But B w w' :=
 ⟨h.below.os, h.below.tape, h.below.output, h.below.size, fun k hk _ => h.below.block k hk, h.froze⟩
theorem But.drew {B : Nat} {a b : World} (h : But B a b) : But B a b.drew := ⟨h.os, h.tape, h.output, h.size, h.block, h.froze⟩
theorem But.setCell {B : Nat} {a b : World} (h : But B a b) (j : Nat) (v : Value) : But B a (b.setCell ⟨B, j, none⟩ v) :=
 h.trans ⟨rfl, rfl, rfl, by simp [World.setCell], fun k hk hB => Below.heap_setCell _ _ _ _ hB, fun x => World.frozen?_setCell _ _ _ _⟩
theorem froze_setRow (w : World) (B : Nat) (cs : Array Value) (x : Addr) : (w.setRow B cs).frozen? x = w.frozen? x := by
 simp only [World.frozen?, World.setRow, Array.getElem?_modify]
 by_cases e : B = x.block
 · subst e
   simp only [if_true]
   generalize w.heap[x.block]? = o
   cases o with
   | none => rfl
   | some o => cases o <;> rfl
 · simp [e]
theorem But.setRow {B : Nat} {a b : World} (h : But B a b) (cs : Array Value) : But B a (b.setRow B cs) :=
 h.trans ⟨rfl, rfl, rfl, by simp [World.setRow], fun k hk hB => setRow_other b B k cs hB, froze_setRow b B cs⟩
theorem But.has {B k : Nat} {cs : Array Value} {t : TypeId} {w w' : World} (h : But B w w') (hk : k ≠ B) (hh : Has k cs t w) : Has k cs t w' :=
 (h.block k hh.lt hk).trans hh
theorem But.kept {B : Nat} {a b : World} (h : But B a b) (hB : a.heap.size ≤ B) : Kept a b :=
 ⟨⟨h.os, h.tape, h.output, h.size, fun k hk => h.block k hk (by omega)⟩, h.froze⟩
theorem Kept.thenBut {B : Nat} {a b c : World} (h : Kept a b) (k : But B b c) (hB : a.heap.size ≤ B) : Kept a c :=
 ⟨h.below.trans ⟨k.os, k.tape, k.output, k.size, fun i hi => k.block i (by have := h.size; omega) (by omega)⟩, fun x => (k.froze x).trans (h.froze x)⟩
structure Ws (w : World) (A : Option Addr) (n c : Nat) (xs : List Int) : Prop where
 len : xs.length = n
 le : n ≤ c
 max : c ≤ maxLen
 nil : A = none → c = 0
 rng : ∀ x ∈ xs, 0 ≤ x ∧ x < 4294967296
 cel : ∀ ad, A = some ad → ∀ j x, xs[j]? = some x → w.cell? (ad.add j) = some (.int .u32 x)
theorem Ws.empty (w : World) : Ws w none 0 0 [] := ⟨rfl, Nat.le_refl _, by simp [maxLen], fun _ => rfl, by simp, by simp⟩
theorem Ws.lt {w : World} {ad : Addr} {n c : Nat} {xs : List Int} (h : Ws w (some ad) n c xs) (hn : 0 < n) : ad.block < w.heap.size := by
 have hl : 0 < xs.length := by have := h.len; omega
 have hx : xs[0]? = some xs[0] := List.getElem?_eq_getElem hl
 have := World.block_lt_of_cell? w _ (h.cel ad rfl 0 _ hx)
 unfold Addr.add at this
 split at this <;> exact this
theorem Ws.to {w w' : World} {A : Option Addr} {n c : Nat} {xs : List Int} (h : Ws w A n c xs) (hk : ∀ ad, A = some ad → 0 < n → w'.heap[ad.block]? = w.heap[ad.block]?) : Ws w' A n c xs :=
 ⟨h.len, h.le, h.max, h.nil, h.rng, fun ad e j x hx => by
  have hj : j < xs.length := by
   rcases Nat.lt_or_ge j xs.length with h1 | h1
   · exact h1
   · rw [List.getElem?_eq_none h1] at hx; cases hx
  rw [World.cell?_of_block (w := w) (by rw [show (ad.add j).block = ad.block by cases j <;> rfl]; exact hk ad e (by have := h.len; omega))]
  exact h.cel ad e j x hx⟩
theorem Ws.below {N : Nat} {w0 w w' : World} {A : Option Addr} {n c : Nat} {xs : List Int} (h : Ws w A n c xs) (hN : w.heap.size ≤ N) (hb : Below N w w') : Ws w' A n c xs :=
 h.to fun ad e hn => hb.block _ (by subst e; have := h.lt hn; omega)
theorem Ws.kept {w w' : World} {A : Option Addr} {n c : Nat} {xs : List Int} (h : Ws w A n c xs) (hb : Kept w w') : Ws w' A n c xs :=
 h.to fun ad e hn => hb.below.block _ (by subst e; exact h.lt hn)
theorem Ws.but {B : Nat} {w w' : World} {A : Option Addr} {n c : Nat} {xs : List Int} (h : Ws w A n c xs) (hb : But B w w') (hB : ∀ ad, A = some ad → 0 < n → ad.block ≠ B) : Ws w' A n c xs :=
 h.to fun ad e hn => hb.block _ (by subst e; exact h.lt hn) (hB ad e hn)
theorem Ws.take {w : World} {A : Option Addr} {n c : Nat} {xs : List Int} (h : Ws w A n c xs) (k : Nat) (hk : k ≤ n) : Ws w A k c (xs.take k) :=
 ⟨by simp [h.len]; omega, by have := h.le; omega, h.max, h.nil, fun x hx => h.rng x (List.mem_of_mem_take hx), fun ad e j x hx => h.cel ad e j x (by
  rw [List.getElem?_take] at hx
  split at hx
  · exact hx
  · cases hx)⟩
structure MemT (tyM : TypeId) (tlM : List Value) (B : Nat) (ws : List Int) (w : World) : Prop where
 len : ws.length ≤ 4096
 rng : ∀ x ∈ ws, 0 ≤ x ∧ x < 4294967296
 has : ∃ cs : Array Value, Has B cs tyM w ∧ cs.size = 4097 + tlM.length ∧ cs[4096]? = some (.int .i64 (ws.length : Int)) ∧ (∀ (j : Nat) (x : Int), ws[j]? = some x → cs[j]? = some (Value.int .u32 x)) ∧ ∀ j : Nat, cs[4097 + j]? = tlM[j]?
abbrev Mem (B : Nat) (ws : List Int) (w : World) : Prop := MemT 68 [] B ws w
theorem MemT.lt {B : Nat} {ws : List Int} {w : World} (h : MemT tyM tlM B ws w) : B < w.heap.size := by obtain ⟨cs, hh, _⟩ := h.has; exact hh.lt
theorem MemT.kept {B : Nat} {ws : List Int} {w w' : World} (h : MemT tyM tlM B ws w) (hK : Kept w w') : MemT tyM tlM B ws w' := by
 obtain ⟨cs, h1, h2⟩ := h.has; exact ⟨h.len, h.rng, cs, h1.kept hK, h2⟩
theorem MemT.drew {B : Nat} {ws : List Int} {w : World} (h : MemT tyM tlM B ws w) : MemT tyM tlM B ws w.drew := ⟨h.len, h.rng, h.has⟩
theorem MemT.count {B : Nat} {ws : List Int} {w : World} (h : MemT tyM tlM B ws w) : w.cell? ⟨B, 4096, none⟩ = some (.int .i64 (ws.length : Int)) := by
 obtain ⟨cs, h1, _, h2, _⟩ := h.has; exact h1.cell 4096 _ h2
theorem MemT.word {B : Nat} {ws : List Int} {w : World} (h : MemT tyM tlM B ws w) (j : Nat) (hj : j < ws.length) : w.cell? ⟨B, j, none⟩ = some (.int .u32 ws[j]) := by
 obtain ⟨cs, h1, _, _, h2, _⟩ := h.has; exact h1.cell j _ (h2 j _ (List.getElem?_eq_getElem hj))
theorem MemT.free {B : Nat} {ws : List Int} {w : World} (h : MemT tyM tlM B ws w) (j : Nat) : w.frozen? ⟨B, j, none⟩ = false := by
 obtain ⟨cs, h1, _⟩ := h.has; exact h1.free j
theorem mem_set {l : List Int} {j : Nat} {x y : Int} (h : y ∈ l.set j x) : y ∈ l ∨ y = x := List.mem_or_eq_of_mem_set h
theorem MemT.set {B : Nat} {ws : List Int} {w : World} (h : MemT tyM tlM B ws w) (j : Nat) (hj : j < ws.length) (x : Int) (h0 : 0 ≤ x) (h1 : x < 4294967296) : MemT tyM tlM B (ws.set j x) (w.setCell ⟨B, j, none⟩ (.int .u32 x)) := by
 obtain ⟨cs, hh, h2, h3, h4, h5⟩ := h.has
 have hl := h.len
 refine ⟨by simpa using hl, fun y hy => ?_, cs.setIfInBounds j (.int .u32 x), hh.set j _, by simpa using h2, ?_, fun k y hk => ?_, fun k => ?_⟩
 · rcases mem_set hy with hy | rfl
   · exact h.rng y hy
   · exact ⟨h0, h1⟩
 · rw [Array.getElem?_setIfInBounds_ne (by omega), h3, List.length_set]
 · rw [List.getElem?_set] at hk
   by_cases e : j = k
   · subst e
     rw [if_pos rfl, if_pos hj] at hk
     cases hk
     rw [Array.getElem?_setIfInBounds_self_of_lt (by omega)]
   · rw [if_neg e] at hk
     rw [Array.getElem?_setIfInBounds_ne e]
     exact h4 k y hk
 · rw [Array.getElem?_setIfInBounds_ne (by omega)]
   exact h5 k
theorem MemT.place {B : Nat} {ws : List Int} {w : World} (h : MemT tyM tlM B ws w) (k : Nat) (xs : List Int) (hk : k + xs.length ≤ ws.length) (hx : ∀ x ∈ xs, 0 ≤ x ∧ x < 4294967296) (cs : Array Value) (hh : Has B cs tyM w)
 (hs : cs.size = 4097 + tlM.length) (h3 : cs[4096]? = some (.int .i64 (ws.length : Int))) (h4 : ∀ (j : Nat) (x : Int), ws[j]? = some x → cs[j]? = some (Value.int .u32 x)) (h5 : ∀ j : Nat, cs[4097 + j]? = tlM[j]?) :
 MemT tyM tlM B (ws.take k ++ xs ++ ws.drop (k + xs.length)) (w.setRow B (cs.toList.take k ++ xs.map (Value.int .u32) ++ cs.toList.drop (k + (xs.map (Value.int .u32)).length)).toArray) := by
 have hl := h.len
 have hlen : (ws.take k ++ xs ++ ws.drop (k + xs.length)).length = ws.length := by simp; omega
 refine ⟨by omega, fun y hy => ?_, _, hh.row _, by simp; omega, ?_, fun j y hj => ?_, fun j => ?_⟩
 · rcases List.mem_append.1 hy with hy | hy
   · rcases List.mem_append.1 hy with hy | hy
     · exact h.rng y (List.mem_of_mem_take hy)
     · exact hx y hy
   · exact h.rng y (List.mem_of_mem_drop hy)
 · rw [hlen]
   simp only [List.getElem?_toArray]
   rw [List.getElem?_append_right (by simp; omega)]
   simp only [List.length_append, List.length_take, List.length_map, List.getElem?_drop, Array.length_toList]
   rw [show k + xs.length + (4096 - (min k cs.size + xs.length)) = 4096 by omega]
   simpa using h3
 · simp only [List.getElem?_toArray]
   by_cases c1 : j < k
   · rw [List.append_assoc, List.getElem?_append_left (by simp; omega), List.getElem?_take, if_pos c1] at hj ⊢
     simpa using h4 j y hj
   · by_cases c2 : j < k + xs.length
     · rw [List.getElem?_append_left (by simp; omega), List.getElem?_append_right (by simp; omega)] at hj ⊢
       rw [show j - (List.take k ws).length = j - k by simp; omega] at hj
       rw [show j - (List.take k cs.toList).length = j - k by simp; omega, List.getElem?_map, hj]
       rfl
     · rw [List.getElem?_append_right (by simp; omega), List.getElem?_drop] at hj ⊢
       rw [show k + xs.length + (j - (List.take k ws ++ xs).length) = j by simp; omega] at hj
       rw [show k + (List.map (Value.int .u32) xs).length + (j - (List.take k cs.toList ++ List.map (Value.int .u32) xs).length) = j by simp; omega]
       simpa using h4 j y hj
 · simp only [List.getElem?_toArray]
   rw [List.getElem?_append_right (by simp; omega), List.getElem?_drop]
   rw [show k + (List.map (Value.int .u32) xs).length + (4097 + j - (List.take k cs.toList ++ List.map (Value.int .u32) xs).length) = 4097 + j by simp; omega]
   simpa using h5 j
end Go.Proofs.YtpfgmfiegnkocaaGreat
namespace Go.Proofs.YtpfgmfiegnkocaaGreat
open Go.ChangeShapes Go.WideShapes Go.RowKit
set_option linter.unusedVariables false
set_option linter.unusedSimpArgs false
set_option maxRecDepth 100000
inductive Sh where
 | int (k : IntKind)
 | bool
 | str
 | nil
 | cons (f r : Sh)
 | rep (n : Nat) (e : Sh)
 | sl (e : Sh)
def Sh.size : Sh → Nat
 | .int _ | .bool | .str | .sl _ => 1
 | .nil => 0
 | .cons f r => f.size + r.size
 | .rep n e => n * e.size
def shFields (P : Program) (g : TypeId → Option Sh) : Nat → List Field → Option Sh
 | _, [] => some .nil
 | off, f :: fs =>
   match g f.type with
   | some s => if f.offset = off ∧ P.cellsOf f.type = s.size then (shFields P g (off + s.size) fs).map (Sh.cons s) else none
   | none => none
def shapeAt (P : Program) : Nat → TypeId → Option Sh
 | 0, _ => none
 | n + 1, t =>
   match P.underlying t with
   | some (.int k) => some (.int k)
   | some .bool => some .bool
   | some .string => some .str
   | some (.struct fs) => match shFields P (shapeAt P n) 0 fs.toList with
     | some s => if P.cellsOf t = s.size then some s else none
     | none => none
   | some (.array m e) => match shapeAt P n e with
     | some s => if P.cellsOf e = s.size ∧ P.cellsOf t = m * s.size then some (.rep m s) else none
     | none => none
   | some (.slice e) => match shapeAt P n e with
     | some s => if P.cellsOf e = s.size then some (.sl s) else none
     | none => none
   | _ => none
def Sees (w : World) : Sh → List Value → Prop
 | .int k, cs => ∃ a, cs = [.int k a] ∧ (Lit.int k a).wf = true
 | .bool, cs => ∃ b, cs = [.bool b]
 | .str, cs => ∃ s, cs = [.string s] ∧ s.size ≤ maxLen
 | .nil, cs => cs = []
 | .cons f r, cs => ∃ c d, cs = c ++ d ∧ c.length = f.size ∧ Sees w f c ∧ Sees w r d
 | .rep n e, cs => cs.length = n * e.size ∧ ∀ i, i < n → Sees w e ((cs.drop (i * e.size)).take e.size)
 | .sl e, cs => cs = [.slice none 0 0] ∨ ∃ (a : Addr) (len cap : Nat), cs = [.slice (some a) len cap] ∧ len ≤ cap ∧ cap ≤ maxLen ∧ ∀ i, i < len → ∃ es, w.cells? 0 (a.add (i * e.size)) e.size = some es ∧ Sees w e es
section
variable {H : Type} {enc : TypeId × Value → H} {P : Program} {w : World} {spare : Nat → Bool} {held : Bool}
theorem sees_fields {m : Nat} {g : TypeId → Option Sh} (ih : ∀ t s, g t = some s → ∀ cs (x : DataW H × List MemPlace), DataW.trod enc P w 0 spare held m t cs = some x → Sees w s cs) :
 ∀ (fs : List Field) (off : Nat) (s : Sh) (cs : List Value) (ys : List (DataW H × List MemPlace)), shFields P g off fs = some s → (cs.drop off).length = s.size →
  fs.mapM (fun f => DataW.trod enc P w 0 spare held m f.type ((cs.drop f.offset).take (P.cellsOf f.type))) = some ys → Sees w s (cs.drop off)
 | [], off, s, cs, ys, hk, hl, h => by
   simp [shFields] at hk
   subst hk
   exact List.length_eq_zero_iff.1 hl
 | f :: fs, off, s, cs, ys, hk, hl, h => by
   unfold shFields at hk
   split at hk
   · rename_i s0 hg
     split at hk
     · rename_i hc
       simp only [Option.map_eq_some_iff] at hk
       obtain ⟨r, hr, rfl⟩ := hk
       rw [List.mapM_cons] at h
       simp only [bind, Option.bind_eq_some_iff, pure, Option.some.injEq] at h
       obtain ⟨y, hy, ys', hys, rfl⟩ := h
       have h0 := ih _ _ hg _ _ hy
       rw [hc.1, hc.2] at h0
       have hl2 : (cs.drop off).length = s0.size + r.size := hl
       have hl' : (cs.drop (off + s0.size)).length = r.size := by
        rw [← List.drop_drop, List.length_drop, hl2]; omega
       refine ⟨(cs.drop off).take s0.size, (cs.drop off).drop s0.size, (List.take_append_drop _ _).symm, ?_, h0, ?_⟩
       · rw [List.length_take, hl2]; omega
       · rw [List.drop_drop]
         exact sees_fields ih fs (off + s0.size) r cs ys' hr hl' hys
     · cases hk
   · cases hk
theorem sees_of : ∀ (n : Nat) (t : TypeId) (s : Sh), shapeAt P n t = some s → ∀ (fuel : Nat) (cs : List Value) (x : DataW H × List MemPlace), DataW.trod enc P w 0 spare held fuel t cs = some x → Sees w s cs
 | 0, t, s, h, _, _, _, _ => by simp [shapeAt] at h
 | n + 1, t, s, h, fuel, cs, x, hx => by
   cases fuel with
   | zero => simp [DataW.trod] at hx
   | succ m =>
     unfold shapeAt at h
     split at h
     · rename_i k hu
       simp only [Option.some.injEq] at h; subst h
       obtain ⟨a, rfl, _, wa⟩ := DataW.trod_int hu hx
       exact ⟨a, rfl, wa⟩
     · rename_i hu
       simp only [Option.some.injEq] at h; subst h
       obtain ⟨b, rfl, _⟩ := DataW.trod_bool hu hx
       exact ⟨b, rfl⟩
     · rename_i hu
       simp only [Option.some.injEq] at h; subst h
       rw [DataW.trod_step] at hx
       unfold DataW.trodStep at hx
       rw [hu] at hx
       split at hx <;> simp_all
       exact ⟨_, rfl, hx.1⟩
     · rename_i fs hu
       split at h
       · rename_i s0 hk
         split at h
         · rename_i hc
           simp only [Option.some.injEq] at h; subst h
           rw [DataW.trod_step] at hx
           unfold DataW.trodStep at hx
           simp only [hu] at hx
           split at hx
           · rename_i hlen
             simp only [Option.map_eq_some_iff] at hx
             obtain ⟨ys, hys, rfl⟩ := hx
             have := sees_fields (fun t s hg cs x hx => sees_of n t s hg m cs x hx) fs.toList 0 s0 cs ys hk (by rw [List.drop_zero, hlen, hc]) hys
             rw [List.drop_zero] at this
             exact this
           · cases hx
         · cases h
       · cases h
     · rename_i q e hu
       split at h
       · rename_i s0 hk
         split at h
         · rename_i hc
           simp only [Option.some.injEq] at h; subst h
           rw [DataW.trod_step] at hx
           unfold DataW.trodStep at hx
           simp only [hu] at hx
           split at hx
           · rename_i hlen
             simp only [Option.map_eq_some_iff] at hx
             obtain ⟨ys, hys, rfl⟩ := hx
             rw [hc.1] at hys
             refine ⟨by rw [hlen, hc.2], fun i hi => ?_⟩
             have := mapM_some_get hys i i (by simp [hi])
             obtain ⟨y, hy⟩ : ∃ y, ys[i]? = some y := by
              have hl := mapM_some_length hys
              exact ⟨ys[i]'(by rw [hl]; simpa using hi), List.getElem?_eq_getElem _⟩
             rw [hy] at this
             exact sees_of n e s0 hk m _ _ this
           · cases hx
         · cases h
       · cases h
     · rename_i e hu
       split at h
       · rename_i s0 hk
         split at h
         · rename_i hc
           simp only [Option.some.injEq] at h; subst h
           rcases DataW.trod_slice hu hx with ⟨h0, _⟩ | ⟨a, len, cap, elems, rest, q, hq, hcs, _, _, hl, hm, hlen, hel, _⟩
           · exact Or.inl h0
           · refine Or.inr ⟨a, len, cap, hcs, hl, hm, fun i hi => ?_⟩
             have he := hel i hi
             obtain ⟨y, hy⟩ : ∃ y, elems[i]? = some y := ⟨elems[i]'(by omega), List.getElem?_eq_getElem _⟩
             rw [hy, Option.bind_eq_some_iff] at he
             obtain ⟨es, h1, h2⟩ := he
             rw [hc] at h1
             exact ⟨es, h1, sees_of n e s0 hk q es y h2⟩
         · cases h
       · cases h
     · cases h
theorem open_sees {n : Nat} {t : TypeId} {s : Sh} {v : Value} {d : DataW H} {p : List MemPlace} (hs : shapeAt P n t = some s) (h : DataW.Trod enc P w 0 spare held t v d p) : Sees w s v.cells.toList := by
 obtain ⟨fuel, hf⟩ := h
 exact sees_of n t s hs fuel _ _ hf
theorem open_sl {r : Reach} {b0 n : Nat} {t e : TypeId} {s : Sh} {v : Value} {d : DataW H} {p : List MemPlace} (hu : P.underlying t = some (.slice e)) (hs : shapeAt P n t = some s) (hv : Value.okWide P w r b0 t v) (h : DataW.Trod enc P w 0 spare held t v d p) :
 ∃ A m c, v = .slice A m c ∧ Sees w s [.slice A m c] := by
 obtain ⟨A, m, c, rfl⟩ := okWide_slice hu hv
 exact ⟨A, m, c, rfl, by have := open_sees hs h; simpa [Value.cells] using this⟩
theorem open_text {r : Reach} {b0 n : Nat} {t : TypeId} {v : Value} {d : DataW H} {p : List MemPlace} (hu : P.underlying t = some .string) (hv : Value.okWide P w r b0 t v) (h : DataW.Trod enc P w 0 spare held t v d p) :
 ∃ x, v = .string x ∧ x.size ≤ maxLen := by
 have := open_sees (n := 1) (s := .str) (by simp [shapeAt, hu]) h
 obtain ⟨x, hx, hl⟩ := this
 refine ⟨x, ?_, hl⟩
 cases v <;> simp_all [Value.cells]
 · rename_i cs
   simp [Value.okWide, hu, Cell.okWide, Cell.ok] at hv
end
section
variable {w : World}
theorem cells_one {a : Addr} {es : List Value} (h : w.cells? 0 a 1 = some es) : ∃ v, es = [v] ∧ w.cell? a = some v := by
 unfold World.cells? at h
 rw [if_pos (Nat.zero_le _)] at h
 rw [show List.range 1 = [0] from rfl] at h
 simp only [List.mapM_cons, List.mapM_nil, bind, Option.bind_eq_some_iff, pure, Option.some.injEq] at h
 obtain ⟨v, hv, ys, rfl, rfl⟩ := h
 exact ⟨v, rfl, by simpa [Addr.add] using hv⟩
theorem cells_at {a : Addr} {n : Nat} {es : List Value} (h : w.cells? 0 a n = some es) : es.length = n ∧ ∀ j v, es[j]? = some v → w.cell? (a.add j) = some v := by
 unfold World.cells? at h
 rw [if_pos (Nat.zero_le _)] at h
 have hl := mapM_some_length h
 rw [List.length_range] at hl
 refine ⟨hl, fun j v hj => ?_⟩
 have hlt : j < n := by
  rcases Nat.lt_or_ge j es.length with h1 | h1
  · omega
  · rw [List.getElem?_eq_none h1] at hj; cases hj
 rw [mapM_some_get h j j (by simp [hlt]), hj]
theorem add_add (a : Addr) (i j : Nat) : (a.add i).add j = a.add (i + j) := by
 cases i with
 | zero => rw [Nat.zero_add]; rfl
 | succ i =>
   cases j with
   | zero => rfl
   | succ j =>
     show ({ a with off := a.off + (i + 1) + (j + 1), spot := none } : Addr) = { a with off := a.off + (i + 1 + (j + 1)), spot := none }
     rw [Nat.add_assoc]
theorem add_block (a : Addr) (i : Nat) : (a.add i).block = a.block := by cases i <;> rfl
def Ints (w : World) (k : IntKind) (A : Option Addr) (n : Nat) (xs : List Int) : Prop :=
 xs.length = n ∧ (∀ x ∈ xs, (Lit.int k x).wf = true) ∧ (A = none → n = 0) ∧ ∀ ad, A = some ad → ∀ j x, xs[j]? = some x → w.cell? (ad.add j) = some (.int k x)
theorem ints_row {a : Addr} {k : IntKind} : ∀ (len : Nat), (∀ i, i < len → ∃ es, w.cells? 0 (a.add (i * 1)) 1 = some es ∧ Sees w (.int k) es) →
 ∃ xs : List Int, xs.length = len ∧ (∀ x ∈ xs, (Lit.int k x).wf = true) ∧ ∀ j x, xs[j]? = some x → w.cell? (a.add j) = some (.int k x)
 | 0, _ => ⟨[], rfl, by simp, by simp⟩
 | len + 1, h => by
   obtain ⟨xs, h1, h2, h3⟩ := ints_row len (fun i hi => h i (by omega))
   obtain ⟨es, he, hs⟩ := h len (by omega)
   obtain ⟨v, rfl, hv⟩ := cells_one he
   obtain ⟨x, hx, hw⟩ := hs
   simp only [List.cons.injEq, and_true] at hx
   subst hx
   rw [Nat.mul_one] at hv
   refine ⟨xs ++ [x], by simp [h1], ?_, ?_⟩
   · intro y hy
     rcases List.mem_append.1 hy with hy | hy
     · exact h2 y hy
     · simp at hy; subst hy; exact hw
   · intro j y hj
     by_cases hlt : j < xs.length
     · rw [List.getElem?_append_left hlt] at hj
       exact h3 j y hj
     · rw [List.getElem?_append_right (by omega)] at hj
       have hj0 : j - xs.length = 0 := by
        rcases Nat.eq_zero_or_pos (j - xs.length) with h0 | h0
        · exact h0
        · rw [List.getElem?_eq_none (by simp; omega)] at hj; cases hj
       rw [hj0] at hj
       simp at hj
       subst hj
       rw [show j = len by omega]
       exact hv
theorem sees_ints {k : IntKind} {A : Option Addr} {n c : Nat} (h : Sees w (.sl (.int k)) [.slice A n c]) : n ≤ c ∧ c ≤ maxLen ∧ ∃ xs, Ints w k A n xs := by
 rcases h with h | ⟨a, len, cap, h, hl, hm, he⟩
 · simp only [List.cons.injEq, Value.slice.injEq, and_true] at h
   obtain ⟨rfl, rfl, rfl⟩ := h
   exact ⟨Nat.le_refl _, by simp [maxLen], [], rfl, by simp, fun _ => rfl, by simp⟩
 · simp only [List.cons.injEq, Value.slice.injEq, and_true] at h
   obtain ⟨rfl, rfl, rfl⟩ := h
   obtain ⟨xs, h1, h2, h3⟩ := ints_row _ he
   exact ⟨hl, hm, xs, h1, h2, by simp, fun ad had j x hx => by cases had; exact h3 j x hx⟩
theorem Ints.lt {k : IntKind} {ad : Addr} {n j : Nat} {xs : List Int} (h : Ints w k (some ad) n xs) (hj : j < n) : ad.block < w.heap.size := by
 have hl : j < xs.length := by have := h.1; omega
 have hx : xs[j]? = some xs[j] := List.getElem?_eq_getElem hl
 have := World.block_lt_of_cell? w _ (h.2.2.2 ad rfl j _ hx)
 unfold Addr.add at this
 split at this <;> exact this
end
theorem wf_u32 {x : Int} (h : (Lit.int .u32 x).wf = true) : 0 ≤ x ∧ x < 4294967296 := by
 simp [Lit.wf, IntKind.bits, IntKind.signed, IntKind.min, IntKind.max] at h
 omega
theorem wf_u8 {x : Int} (h : (Lit.int .u8 x).wf = true) : 0 ≤ x ∧ x ≤ 255 := by
 simp [Lit.wf, IntKind.bits, IntKind.signed, IntKind.min, IntKind.max] at h
 omega
theorem wf_u16 {x : Int} (h : (Lit.int .u16 x).wf = true) : 0 ≤ x ∧ x ≤ 65535 := by
 simp [Lit.wf, IntKind.bits, IntKind.signed, IntKind.min, IntKind.max] at h
 omega
theorem wf_i64 {x : Int} (h : (Lit.int .i64 x).wf = true) : -9223372036854775808 ≤ x ∧ x ≤ 9223372036854775807 := by
 simp [Lit.wf, IntKind.bits, IntKind.signed, IntKind.min, IntKind.max] at h
 omega
theorem sees_ws {w : World} {A : Option Addr} {n c : Nat} (h : Sees w (.sl (.int .u32)) [.slice A n c]) : ∃ xs, Ws w A n c xs := by
 have hn : A = none → c = 0 := by
  rcases h with h | ⟨a, len, cap, h, _⟩
  · simp only [List.cons.injEq, Value.slice.injEq, and_true] at h
    exact fun _ => h.2.2
  · simp only [List.cons.injEq, Value.slice.injEq, and_true] at h
    exact fun e => by rw [h.1] at e; cases e
 obtain ⟨h1, h2, xs, i1, i2, i3, i4⟩ := sees_ints h
 exact ⟨xs, i1, h1, h2, hn, fun x hx => wf_u32 (i2 x hx), i4⟩
end Go.Proofs.YtpfgmfiegnkocaaGreat
namespace Go.Proofs.YtpfgmfiegnkocaaGreat
open Go.RowKit
set_option linter.unusedVariables false
set_option linter.unusedSimpArgs false
set_option maxRecDepth 100000
structure Rw (k : IntKind) (L : Int) (w : World) (A : Option Addr) (n c : Nat) (xs : List Int) : Prop where
 len : xs.length = n
 le : n ≤ c
 max : c ≤ maxLen
 nil : A = none → c = 0
 rng : ∀ x ∈ xs, 0 ≤ x ∧ x < L
 cel : ∀ ad, A = some ad → ∀ j x, xs[j]? = some x → w.cell? (ad.add j) = some (.int k x)
abbrev By (w : World) (A : Option Addr) (n c : Nat) (xs : List Int) : Prop := Rw .u8 256 w A n c xs
abbrev Wo (w : World) (A : Option Addr) (n c : Nat) (xs : List Int) : Prop := Rw .u32 4294967296 w A n c xs
theorem Rw.ws {w : World} {A : Option Addr} {n c : Nat} {xs : List Int} (h : Wo w A n c xs) : Ws w A n c xs := ⟨h.len, h.le, h.max, h.nil, h.rng, h.cel⟩
theorem Ws.rw {w : World} {A : Option Addr} {n c : Nat} {xs : List Int} (h : Ws w A n c xs) : Wo w A n c xs := ⟨h.len, h.le, h.max, h.nil, h.rng, h.cel⟩
section
variable {k : IntKind} {L : Int} {w w' : World} {A : Option Addr} {n c : Nat} {xs : List Int}
theorem Rw.lt {ad : Addr} (h : Rw k L w (some ad) n c xs) (hn : 0 < n) : ad.block < w.heap.size := by
 have hl : 0 < xs.length := by have := h.len; omega
 have hx : xs[0]? = some xs[0] := List.getElem?_eq_getElem hl
 have := World.block_lt_of_cell? w _ (h.cel ad rfl 0 _ hx)
 unfold Addr.add at this
 split at this <;> exact this
theorem Rw.to (h : Rw k L w A n c xs) (hk : ∀ ad, A = some ad → 0 < n → w'.heap[ad.block]? = w.heap[ad.block]?) : Rw k L w' A n c xs :=
 ⟨h.len, h.le, h.max, h.nil, h.rng, fun ad e j x hx => by
  have hj : j < xs.length := by
   rcases Nat.lt_or_ge j xs.length with h1 | h1
   · exact h1
   · rw [List.getElem?_eq_none h1] at hx; cases hx
  rw [World.cell?_of_block (w := w) (by rw [show (ad.add j).block = ad.block by cases j <;> rfl]; exact hk ad e (by have := h.len; omega))]
  exact h.cel ad e j x hx⟩
theorem Rw.below (h : Rw k L w A n c xs) (hb : Below w.heap.size w w') : Rw k L w' A n c xs :=
 h.to fun ad e hn => hb.block _ (by subst e; exact h.lt hn)
theorem Rw.take (h : Rw k L w A n c xs) (m : Nat) (hm : m ≤ n) : Rw k L w A m c (xs.take m) :=
 ⟨by simp [h.len]; omega, by have := h.le; omega, h.max, h.nil, fun x hx => h.rng x (List.mem_of_mem_take hx), fun ad e j x hx => h.cel ad e j x (by
  rw [List.getElem?_take] at hx
  split at hx
  · exact hx
  · cases hx)⟩
theorem Rw.addr {ad : Addr} (h : Rw k L w (some ad) n c xs) (hn : 0 < n) : ∃ b off, ad = ⟨b, off, none⟩ := by
 have hl : 0 < xs.length := by have := h.len; omega
 have hx := h.cel ad rfl 0 _ (List.getElem?_eq_getElem hl)
 obtain ⟨b, off, spot⟩ := ad
 have hspot : spot = none := by simpa [Addr.add] using World.cell?_spot hx
 subst hspot
 exact ⟨b, off, rfl⟩
theorem Rw.place (h : Rw k L w A n c xs) (hn : 0 < n) : ∃ b off, A = some ⟨b, off, none⟩ := by
 cases A with
 | none => have := h.nil rfl; have := h.le; omega
 | some ad => obtain ⟨b, off, rfl⟩ := h.addr hn; exact ⟨b, off, rfl⟩
theorem Rw.cellAt {b off : Nat} (h : Rw k L w (some ⟨b, off, none⟩) n c xs) (j : Nat) (x : Int) (hx : xs[j]? = some x) : w.cell? ⟨b, off + j, none⟩ = some (.int k x) := by
 have := h.cel _ rfl j x hx
 rwa [show (⟨b, off, none⟩ : Addr).add j = ⟨b, off + j, none⟩ by cases j <;> simp [Addr.add]] at this
theorem Rw.cellIn {b off : Nat} (h : Rw k L w (some ⟨b, off, none⟩) n c xs) (j : Nat) (hj : j < xs.length) : w.cell? ⟨b, off + j, none⟩ = some (.int k xs[j]) := h.cellAt j _ (List.getElem?_eq_getElem hj)
end
theorem Bel.trans {a b c : World} (h : Below a.heap.size a b) (k : Below b.heap.size b c) : Below a.heap.size a c := h.trans (k.mono h.size)
def L.bs (s : ByteArray) : List Int := s.data.toList.map fun b => (b.toNat : Int)
theorem L.bs_len (s : ByteArray) : (L.bs s).length = s.size := by
 rw [L.bs, List.length_map, Array.length_toList]; rfl
theorem L.bs_rng (s : ByteArray) : ∀ x ∈ L.bs s, 0 ≤ x ∧ x < 256 := by
 intro x hx
 obtain ⟨b, _, rfl⟩ := List.mem_map.1 hx
 have := b.toNat_lt
 omega
theorem L.bs_str (xs : List Int) (h : ∀ x ∈ xs, 0 ≤ x ∧ x < 256) : L.bs (strOfNums xs) = xs := by
 unfold strOfNums L.bs
 simp only [List.map_map]
 rw [List.map_congr_left (g := id)]
 · simp
 · intro x hx
   have := h x hx
   simp only [Function.comp, id]
   rw [UInt8.toNat_ofNat_of_lt' (by show x.toNat < 256; omega)]
   omega
theorem L.bs_at (s : ByteArray) (k : Nat) (h : k < s.size) : ((s[k]'h).toNat : Int) = (L.bs s)[k]'(by rw [L.bs_len]; exact h) := by
 unfold L.bs
 simp only [List.getElem_map, Array.getElem_toList]
 rfl
def Ow (e : TypeId) (k : IntKind) (base g n cap : Nat) (xs : List Int) (w : World) : Prop := w.ownsRow base e 1 (.slice (some ⟨g, 0, none⟩) n cap) n (xs.map (Value.int k))
section
variable {e : TypeId} {k : IntKind} {base g n cap : Nat} {xs : List Int} {w : World}
theorem Ow.has (h : Ow e k base g n cap xs w) : base ≤ g ∧ n ≤ cap ∧ cap ≤ maxLen ∧ xs.length = n ∧ ∃ cur : Array Value, Has g cur e w ∧ cur.size = cap ∧ cur.toList.take n = xs.map (Value.int k) := by
 obtain ⟨h1, h2⟩ := h
 rcases h2 with ⟨h2, _⟩ | ⟨g', cap', cur, hv, hb, hh, hle, hm, hs, ht⟩
 · cases h2
 · cases hv
   rw [Nat.mul_one] at hs ht h1
   exact ⟨hb, hle, hm, by simpa using h1, cur, hh, hs, ht⟩
theorem Ow.mk' (hb : base ≤ g) (h1 : n ≤ cap) (h2 : cap ≤ maxLen) (h3 : xs.length = n) (cur : Array Value) (hh : Has g cur e w) (hs : cur.size = cap) (ht : cur.toList.take n = xs.map (Value.int k)) : Ow e k base g n cap xs w :=
 ⟨by simpa using h3, Or.inr ⟨g, cap, cur, rfl, hb, hh, h1, h2, by simpa using hs, by simpa using ht⟩⟩
theorem Ow.below {w' : World} (h : Ow e k base g n cap xs w) (hb : Below w.heap.size w w') : Ow e k base g n cap xs w' := by
 obtain ⟨h1, h2, h3, h4, cur, h5, h6, h7⟩ := h.has
 exact Ow.mk' h1 h2 h3 h4 cur ((hb.block g h5.lt).trans h5) h6 h7
theorem Ow.set (h : Ow e k base g n cap xs w) (j : Nat) (x : Int) : Ow e k base g n cap (xs.set j x) (w.setCell ⟨g, j, none⟩ (.int k x)) := by
 obtain ⟨h1, h2, h3, h4, cur, h5, h6, h7⟩ := h.has
 refine Ow.mk' h1 h2 h3 (by simpa using h4) _ (h5.set j (.int k x)) (by simpa using h6) ?_
 rw [Array.toList_setIfInBounds, List.take_set, h7, List.map_set]
theorem Ow.free (h : Ow e k base g n cap xs w) (j : Nat) : w.frozen? ⟨g, j, none⟩ = false := by
 obtain ⟨h1, h2, h3, h4, cur, h5, h6, h7⟩ := h.has
 exact h5.free j
theorem Ow.cell (h : Ow e k base g n cap xs w) (j : Nat) (hj : j < n) : ∃ v, w.cell? ⟨g, j, none⟩ = some v := by
 obtain ⟨h1, h2, h3, h4, cur, h5, h6, h7⟩ := h.has
 exact ⟨_, h5.cell j _ (Array.getElem?_eq_getElem (by omega))⟩
theorem Ow.new (e : TypeId) (k : IntKind) (w : World) (base : Nat) (hb : base ≤ w.heap.size) : Ow e k base w.heap.size 0 0 [] (w.alloc (.cells #[] e)) :=
 Ow.mk' hb (Nat.le_refl _) (by simp [maxLen]) rfl #[] (heap_alloc_last _ _) rfl rfl
end
section
variable {P : Program} {ops : Array Oper} {rest : List Oper} {o : Oper} {a : Act} {Q : Exit → Act → World → Prop} {w : World}
theorem append_row {e t : TypeId} {k : IntKind} {L : Int} {by0 : Nat} (hu : P.underlying t = some (.slice e)) (hinf : (P.info? e).map (fun i => (i.zero, i.size, i.bytes)) = some (some (.int k 0), 1, by0)) (hby : by0 ≤ 8)
 (hgd : o.guard = none) (s x : Operand)
 (ho : o.op = .call { callee := .builtin .append, args := #[s, x], argTypes := #[t, t] }) (base g n cap : Nat) (xs : List Int) (hs : a.eval s = .slice (some ⟨g, 0, none⟩) n cap) (hown : Ow e k base g n cap xs w)
 (A : Option Addr) (m c : Nat) (ys : List Int) (hx : a.eval x = .slice A m c) (hY : Rw k L w A m c ys) (hb : n + m ≤ 1000000000000) (hbase : base ≤ w.heap.size)
 (h : ∀ g' cap' w', Ow e k base g' (n + m) cap' (xs ++ ys) w' → w.grownBy w' (some g) → wpList P ops Q rest (a.put o.dst (.slice (some ⟨g', 0, none⟩) (n + m) cap')) w') : wpList P ops Q (o :: rest) a w := by
 obtain ⟨i0, hi, hz0, hz1, hz2⟩ := info_parts hinf
 cases A with
 | none =>
   have hc := hY.nil rfl
   have hm : m = 0 := by have := hY.le; omega
   subst hc hm
   have hy : ys = [] := List.eq_nil_of_length_eq_zero hY.len
   subst hy
   refine wpList_append_own_none hgd s x t ho base e i0 1 hu hi _ n _ hs hown hx ?_
   have := h g cap w (by rw [Nat.add_zero, List.append_nil]; exact hown) ⟨rfl, rfl, rfl, Nat.le_refl _, fun _ _ _ => rfl⟩
   exact this
 | some ad =>
   refine wpList_append_own w hgd s x t ho base e i0 (.int k 0) 1 by0 hu hi hz0 hz1 hz2 rfl (by decide) _ n (xs.map (Value.int k)) hs hown ad m c (ys.map (Value.int k)) hx (by rw [List.length_map, hY.len, Nat.mul_one]) ?_ ?_ (by unfold maxLen; omega) ?_ hbase ?_
   · intro j u hj
     rw [List.getElem?_map, Option.map_eq_some_iff] at hj
     obtain ⟨y, hy, rfl⟩ := hj
     exact hY.cel ad rfl j y hy
   · intro u hu
     obtain ⟨y, _, rfl⟩ := List.mem_map.1 hu
     rfl
   · have := Nat.mul_le_mul hb hby
     omega
   · intro v' w' h1 h2 h3
     have hv : ∃ g' cap', v' = .slice (some ⟨g', 0, none⟩) (n + m) cap' := by
      rcases h1.2 with ⟨h4, _⟩ | ⟨g', cap', cur, h4, _⟩
      · have := (h3.1 h4).1
        cases this
      · exact ⟨g', cap', h4⟩
     obtain ⟨g', cap', rfl⟩ := hv
     rw [← List.map_append] at h1
     exact h g' cap' w' h1 h2
theorem exec_text {src dst e : TypeId} (hs : P.underlying src = some (.slice e)) (he : P.underlying e = some (.int .u8)) (hd : P.underlying dst = some .string) (x : Operand) (ho : o.op = .convert src dst x)
 {A : Option Addr} {n c : Nat} {xs : List Int} (hx : a.eval x = .slice A n c) (h : By w A n c xs) : (execOp a.eval o).run P w = .ok (.value (.string (strOfNums xs))) w := by
 have hr : (convert src dst (.slice A n c)).run P w = .ok (.string (strOfNums xs)) w := by
  rcases Nat.eq_zero_or_pos n with rfl | hn
  · have hy : xs = [] := List.eq_nil_of_length_eq_zero h.len
    subst hy
    cases A with
    | none =>
      have := run_convert_bytes_nil (P := P) w src e hs he 0 c dst hd
      exact this
    | some ad =>
      rw [run_convert_bytes_string w src dst e _ 0 c hs he hd, run_bytesToString w ad 0 c [] (run_loadCells_list (P := P) w ad [] (by simp))]
      rfl
  · obtain ⟨b, off, rfl⟩ := h.place hn
    exact run_convert_bytes_arg w src e hs he b off n c xs h.len (fun i hi => by
     have hi2 : i < xs.length := by have := h.len; omega
     rw [h.cellIn i hi2]
     simp [List.getD, List.getElem?_eq_getElem hi2]) dst hd
 unfold execOp
 simp only [ho, hx, Sem.run_bind, Sem.run_pure, Result.andThen_ok, hr]
theorem want_do {v : Value} (hw : Region.wanted o (yielded ops a.tmps) = true) (he : (execOp a.eval o).run P w = .ok (.value v) w) (h : wpList P ops Q rest (a.put o.dst v) w) : wpList P ops Q (o :: rest) a w :=
 BigFrame.wpList_want hw fun K hK => by
  unfold Oper.wp
  simp only [he, Oper.upon]
  exact hK _ _ h
theorem make_rows (hgd : o.guard = none) (l c : Operand) (t : TypeId) (ho : o.op = .makeSlice t l c)
 (e : TypeId) {z : Value} {b : Nat} (h1 : P.underlying t = some (.slice e)) (hi : (P.info? e).map (fun i => (i.zero, i.size, i.bytes)) = some (some z, 1, b)) (n m : Nat) (N M : Int) (hl : a.eval l = .int .i64 N) (hc : a.eval c = .int .i64 M) (hN : N = n) (hM : M = m) (hnm : n ≤ m)
 (b2 : b * m ≤ 281474976710656) (b3 : m ≤ maxLen)
 (h : wpList P ops Q rest (a.put o.dst (.slice (some ⟨w.heap.size, 0, none⟩) n m)) (w.alloc (.cells (madeCells z.cells m) e))) : wpList P ops Q (o :: rest) a w := by
 subst hN hM
 refine wpList_plain hgd fun K hK => ?_
 obtain ⟨i, hi, hz, hs, hb⟩ := info_parts hi
 have b4 : (i.bytes : Int) * (m : Int) ≤ 281474976710656 := by rw [hb, ← Int.natCast_mul]; exact Int.ofNat_le.2 b2
 have hrun := run_make (P := P) w t e i z h1 hi hz .i64 .i64 n m (by omega) (by omega) b4 (by unfold maxLen at b3; omega)
 simp only [Int.toNat_natCast, hs, Nat.mul_one] at hrun
 unfold Oper.wp
 simp [execOp, ho, hl, hc, hrun, Result.andThen]
 exact hK _ _ h
end
section
variable {P : Program} {ops : Array Oper} {Q : Exit → Act → World → Prop} {md : Region.Mode} {S S' : World → Prop}
theorem wpAnyH_more (hSS : ∀ w, S' w → S w) : ∀ (fuel : Nat) (listed : Array Bool) (a : Act) (w : World), wpAnyH P md ops Q S' fuel listed a w → wpAnyH P md ops Q S fuel listed a w
 | 0, _, _, _, h => h
 | fuel + 1, _, _, _, h => ⟨h.1, fun i hi => wpOp_mono (fun a' w' h' => ⟨hSS _ h'.1, wpAnyH_more hSS fuel _ a' w' h'.2⟩) (h.2 i hi)⟩
theorem wpAnyH_now {w0 : World} (fuel : Nat) (listed : Array Bool) (a : Act) (w : World) (hb : Below w0.heap.size w0 w) (h : Below w.heap.size w w → wpAnyH P md ops Q (fun w' => Below w.heap.size w w') fuel listed a w) : wpAnyH P md ops Q (fun w' => Below w0.heap.size w0 w') fuel listed a w :=
 wpAnyH_more (fun w' h' => Bel.trans hb h') fuel listed a w (h (Below.refl _ _))
end
end Go.Proofs.YtpfgmfiegnkocaaGreat
namespace Go.Proofs.YtpfgmfiegnkocaaGreat
set_option linter.unusedVariables false
set_option linter.unusedSimpArgs false
set_option maxRecDepth 100000
def L.letter (c : Int) : Bool := (decide (65 ≤ c) && decide (c ≤ 90)) || (decide (97 ≤ c) && decide (c ≤ 122))
def L.digit (c : Int) : Bool := decide (48 ≤ c) && decide (c ≤ 57)
def L.part (c : Int) : Bool := L.letter c || L.digit c || decide (c = 95)
def L.reg (xs : List Int) : Bool := decide (2 ≤ xs.length ∧ xs.length ≤ 3) && decide (xs.getD 0 0 = 82) && (xs.drop 1).all L.digit
def L.name (xs : List Int) : Bool := decide (1 ≤ xs.length ∧ xs.length ≤ 12) && L.letter (xs.getD 0 0) && !L.reg xs && xs.all L.part
def L.whole (n : Nat) : Nat := (n + 4) / 4 * 4
def L.nameB (xs : List Int) : List Int := ((xs.length : Int) :: xs) ++ List.replicate (L.whole xs.length - (1 + xs.length)) 0
def L.pnE (xs : List Int) : Int := if L.name xs = true then 0 else 9
def L.pnB (xs : List Int) : List Int := if L.name xs = true then L.nameB xs else []
def L.first (bs : List Int) : Nat := (bs.getD 0 0).toNat
def L.tnX (bs : List Int) : List Int := (bs.take (1 + L.first bs)).drop 1
def L.tnE (bs : List Int) : Int :=
 if bs.length = 0 then 3 else if bs.length < L.whole (L.first bs) then 3 else if L.name (L.tnX bs) = true then
  if ((bs.take (L.whole (L.first bs))).drop (1 + L.first bs)).all (fun x => decide (x = 0)) = true then 0 else 6 else 9
def L.tnS (bs : List Int) : List Int := if L.tnE bs = 0 then L.tnX bs else []
def L.tnN (bs : List Int) : Int := if L.tnE bs = 0 then (L.whole (L.first bs) : Int) else 0
def L.four (x : Int) : List Int := [x % 256, x / 256 % 256, x / 65536 % 256, x / 16777216 % 256]
def L.put (xs : List Int) : List Int := xs.flatMap L.four
def L.word (bs : List Int) (p : Nat) : Int := bs.getD p 0 + 256 * bs.getD (p + 1) 0 + 65536 * bs.getD (p + 2) 0 + 16777216 * bs.getD (p + 3) 0
def L.words (bs : List Int) (n : Nat) : List Int := (List.range n).map fun i => L.word bs (4 * i)
def L.tkE (bs : List Int) (n : Int) : Int := if n < 0 ∨ ((bs.length / 4 : Nat) : Int) < n then 3 else 0
def L.tkW (bs : List Int) (n : Int) : List Int := if n < 0 ∨ ((bs.length / 4 : Nat) : Int) < n then [] else L.words bs n.toNat
def L.Byt (xs : List Int) : Prop := ∀ x ∈ xs, 0 ≤ x ∧ x < 256
end Go.Proofs.YtpfgmfiegnkocaaGreat
namespace Go.Proofs.YtpfgmfiegnkocaaGreat
open Go.RowKit
set_option linter.unusedVariables false
set_option linter.unusedSimpArgs false
set_option maxRecDepth 100000
abbrev Ob.Y := ByteArray × Int
theorem Ob.bl_trans : ∀ a b c : List UInt8, Op.bytesLess a b = true → Op.bytesLess b c = true → Op.bytesLess a c = true
 | [], b, [], h, k => by cases b <;> simp [Op.bytesLess] at k
 | [], _, _ :: _, _, _ => by simp [Op.bytesLess]
 | _ :: _, [], _, h, _ => by simp [Op.bytesLess] at h
 | _ :: _, _ :: _, [], _, k => by simp [Op.bytesLess] at k
 | x :: a, y :: b, z :: c, h, k => by
   simp only [Op.bytesLess, Bool.or_eq_true, decide_eq_true_eq, Bool.and_eq_true, beq_iff_eq] at h k ⊢
   rcases h with h | ⟨rfl, h⟩
   · rcases k with k | ⟨rfl, k⟩
     · exact Or.inl (UInt8.lt_trans h k)
     · exact Or.inl h
   · rcases k with k | ⟨rfl, k⟩
     · exact Or.inl k
     · exact Or.inr ⟨rfl, Ob.bl_trans a b c h k⟩
theorem Ob.bl_irr : ∀ a : List UInt8, Op.bytesLess a a = false
 | [] => rfl
 | x :: a => by simp [Op.bytesLess, Ob.bl_irr a]
theorem Ob.bl_tri : ∀ a b : List UInt8, Op.bytesLess a b = false → Op.bytesLess b a = false → a = b
 | [], [], _, _ => rfl
 | [], _ :: _, h, _ => by simp [Op.bytesLess] at h
 | _ :: _, [], _, h => by simp [Op.bytesLess] at h
 | x :: a, y :: b, h, k => by
   simp only [Op.bytesLess, Bool.or_eq_false_iff, decide_eq_false_iff_not, Bool.and_eq_false_iff, beq_eq_false_iff_ne, ne_eq] at h k
   have e : x = y := by
    have h1 := h.1
    have k1 := k.1
    rw [UInt8.lt_iff_toNat_lt] at h1 k1
    exact UInt8.toNat_inj.1 (by omega)
   subst e
   have h2 := h.2.resolve_left (fun q => q rfl)
   have k2 := k.2.resolve_left (fun q => q rfl)
   rw [Ob.bl_tri a b h2 k2]
def Ob.bl (a b : ByteArray) : Bool := Op.bytesLess a.toList b.toList
theorem Ob.toList_inj {a b : ByteArray} (h : a.toList = b.toList) : a = b := by
 rw [Lib.toList_data, Lib.toList_data] at h
 obtain ⟨⟨a⟩⟩ := a
 obtain ⟨⟨b⟩⟩ := b
 simpa using h
theorem Ob.lt_trans {a b c : ByteArray} (h : Ob.bl a b = true) (k : Ob.bl b c = true) : Ob.bl a c = true := Ob.bl_trans _ _ _ h k
theorem Ob.lt_of {a b : ByteArray} (h : Ob.bl a b = false) (hn : a ≠ b) : Ob.bl b a = true := by
 cases q : Ob.bl b a with
 | true => rfl
 | false => exact absurd (Ob.toList_inj (Ob.bl_tri _ _ h q)) hn
theorem Ob.le_not {a b : ByteArray} (h : Ob.bl b a = true) : (Op.bytesLess a.toList b.toList || a.toList == b.toList) = false := by
 have h1 : Op.bytesLess a.toList b.toList = false := by
  cases q : Op.bytesLess a.toList b.toList with
  | false => rfl
  | true => have := Ob.bl_trans _ _ _ h q; rw [Ob.bl_irr] at this; cases this
 have h2 : (a.toList == b.toList) = false := by
  cases q : a.toList == b.toList with
  | false => rfl
  | true => rw [beq_iff_eq] at q; unfold Ob.bl at h; rw [q, Ob.bl_irr] at h; cases h
 rw [h1, h2]; rfl
theorem Ob.le_yes {a b : ByteArray} (h : Ob.bl b a = false) : (Op.bytesLess a.toList b.toList || a.toList == b.toList) = true := by
 cases q : Op.bytesLess a.toList b.toList with
 | true => rfl
 | false => rw [Ob.bl_tri _ _ h q]; simp
def Ob.e0 : ByteArray := ⟨#[]⟩
theorem Ob.lt_empty {a : ByteArray} (h : 0 < a.size) : Ob.bl Ob.e0 a = true := by
 unfold Ob.bl Ob.e0
 rw [Lib.toList_data, Lib.toList_data]
 obtain ⟨⟨l⟩⟩ := a
 cases l with
 | nil => exact absurd h (by decide)
 | cons x l => rfl
def Ob.nm (ys : List Ob.Y) (k : Nat) : ByteArray := (ys.getD k (Ob.e0, 0)).1
def Ob.pl (ys : List Ob.Y) (k : Nat) : Int := (ys.getD k (Ob.e0, 0)).2
def Ob.pr (ys : List Ob.Y) : Nat → ByteArray
 | 0 => Ob.e0
 | k + 1 => Ob.nm ys k
def Ob.OkN (ys : List Ob.Y) (k : Nat) : Prop := L.name (L.bs (Ob.nm ys k)) = true ∧ Ob.bl (Ob.pr ys k) (Ob.nm ys k) = true
instance (ys : List Ob.Y) (k : Nat) : Decidable (Ob.OkN ys k) := inferInstanceAs (Decidable (_ ∧ _))
def Ob.Names (ys : List Ob.Y) : Prop := ∀ k, k < ys.length → Ob.OkN ys k
instance (ys : List Ob.Y) : Decidable (Ob.Names ys) := Nat.decidableBallLT ys.length (fun k _ => Ob.OkN ys k)
def Ob.OkP (e : Int) (ys : List Ob.Y) (k : Nat) : Prop := 0 ≤ Ob.pl ys k ∧ Ob.pl ys k ≤ e ∧ Ob.pl ys k % 4 = 0
instance (e : Int) (ys : List Ob.Y) (k : Nat) : Decidable (Ob.OkP e ys k) := inferInstanceAs (Decidable (_ ∧ _ ∧ _))
def Ob.Places (e : Int) (ys : List Ob.Y) : Prop := ∀ k, k < ys.length → Ob.OkP e ys k
instance (e : Int) (ys : List Ob.Y) : Decidable (Ob.Places e ys) := Nat.decidableBallLT ys.length (fun k _ => Ob.OkP e ys k)
def Ob.LowAt (ws ss : List Int) (k : Nat) : Prop := Ch.val ws ss k ≤ 4 * (ws.length : Int)
instance (ws ss : List Int) (k : Nat) : Decidable (Ob.LowAt ws ss k) := inferInstanceAs (Decidable (_ ≤ _))
def Ob.Low (ws ss : List Int) : Prop := ∀ k, k < ss.length → Ob.LowAt ws ss k
instance (ws ss : List Int) : Decidable (Ob.Low ws ss) := Nat.decidableBallLT ss.length (fun k _ => Ob.LowAt ws ss k)
def Ob.may (ws ss : List Int) (ys : List Ob.Y) : Int :=
 if 1024 < ws.length ∨ 64 < ys.length then 2 else if Ch.Rises ws.length ss then (if Ob.Low ws ss then (if Ob.Names ys then (if Ob.Places (4 * (ws.length : Int)) ys then 0 else 8) else 9) else 8) else 7
def Ob.same (ws ss : List Int) (ys : List Ob.Y) (ws' ss' : List Int) (ys' : List Ob.Y) : Bool := decide (ws = ws' ∧ ss = ss' ∧ ys = ys')
theorem Ob.may_2 {ws ss : List Int} {ys : List Ob.Y} (h : 1024 < ws.length ∨ 64 < ys.length) : Ob.may ws ss ys = 2 := by unfold Ob.may; rw [if_pos h]
theorem Ob.may_7 {ws ss : List Int} {ys : List Ob.Y} (h : ¬ (1024 < ws.length ∨ 64 < ys.length)) (h1 : ¬ Ch.Rises ws.length ss) : Ob.may ws ss ys = 7 := by unfold Ob.may; rw [if_neg h, if_neg h1]
theorem Ob.may_8 {ws ss : List Int} {ys : List Ob.Y} (h : ¬ (1024 < ws.length ∨ 64 < ys.length)) (h1 : Ch.Rises ws.length ss) (h2 : ¬ Ob.Low ws ss) : Ob.may ws ss ys = 8 := by unfold Ob.may; rw [if_neg h, if_pos h1, if_neg h2]
theorem Ob.may_9 {ws ss : List Int} {ys : List Ob.Y} (h : ¬ (1024 < ws.length ∨ 64 < ys.length)) (h1 : Ch.Rises ws.length ss) (h2 : Ob.Low ws ss) (h3 : ¬ Ob.Names ys) : Ob.may ws ss ys = 9 := by unfold Ob.may; rw [if_neg h, if_pos h1, if_pos h2, if_neg h3]
theorem Ob.may_88 {ws ss : List Int} {ys : List Ob.Y} (h : ¬ (1024 < ws.length ∨ 64 < ys.length)) (h1 : Ch.Rises ws.length ss) (h2 : Ob.Low ws ss) (h3 : Ob.Names ys) (h4 : ¬ Ob.Places (4 * (ws.length : Int)) ys) : Ob.may ws ss ys = 8 := by unfold Ob.may; rw [if_neg h, if_pos h1, if_pos h2, if_pos h3, if_neg h4]
theorem Ob.may_0 {ws ss : List Int} {ys : List Ob.Y} (h : ¬ (1024 < ws.length ∨ 64 < ys.length)) (h1 : Ch.Rises ws.length ss) (h2 : Ob.Low ws ss) (h3 : Ob.Names ys) (h4 : Ob.Places (4 * (ws.length : Int)) ys) : Ob.may ws ss ys = 0 := by unfold Ob.may; rw [if_neg h, if_pos h1, if_pos h2, if_pos h3, if_pos h4]
def Ob.Good (s : ByteArray) : Prop := L.name (L.bs s) = true
def Ob.Rise (ys : List Ob.Y) : Prop := (∀ y ∈ ys, Ob.Good y.1) ∧ ys.Pairwise (fun a b => Ob.bl a.1 b.1 = true)
theorem Ob.nm_get {ys : List Ob.Y} {k : Nat} (h : k < ys.length) : Ob.nm ys k = (ys[k]).1 := by
 unfold Ob.nm
 rw [List.getD_eq_getElem?_getD, List.getElem?_eq_getElem h]; rfl
theorem Ob.pl_get {ys : List Ob.Y} {k : Nat} (h : k < ys.length) : Ob.pl ys k = (ys[k]).2 := by
 unfold Ob.pl
 rw [List.getD_eq_getElem?_getD, List.getElem?_eq_getElem h]; rfl
theorem Ob.at_get {ys : List Ob.Y} {k : Nat} (h : k < ys.length) : ys[k]? = some (Ob.nm ys k, Ob.pl ys k) := by
 rw [Ob.nm_get h, Ob.pl_get h, List.getElem?_eq_getElem h]
theorem Ob.good_size {s : ByteArray} (h : Ob.Good s) : 0 < s.size := by
 unfold Ob.Good L.name at h
 simp only [Bool.and_eq_true, decide_eq_true_eq] at h
 have := h.1.1.1.1
 rw [L.bs_len] at this
 omega
theorem Ob.names_lt {ys : List Ob.Y} (h : Ob.Names ys) : ∀ j, j < ys.length → ∀ i, i < j → Ob.bl (Ob.nm ys i) (Ob.nm ys j) = true
 | 0, _, i, hi => by omega
 | j + 1, hj, i, hi => by
   have h1 : Ob.bl (Ob.nm ys j) (Ob.nm ys (j + 1)) = true := (h (j + 1) hj).2
   rcases Nat.lt_or_ge i j with c | c
   · exact Ob.lt_trans (Ob.names_lt h j (by omega) i c) h1
   · rw [show i = j by omega]; exact h1
theorem Ob.names_iff (ys : List Ob.Y) : Ob.Names ys ↔ Ob.Rise ys := by
 constructor
 · intro h
   refine ⟨fun y hy => ?_, List.pairwise_iff_getElem.2 fun i j hi hj hij => ?_⟩
   · obtain ⟨k, hk, rfl⟩ := List.getElem_of_mem hy
     have := (h k hk).1
     rw [Ob.nm_get hk] at this
     exact this
   · have := Ob.names_lt h j hj i hij
     rw [Ob.nm_get hi, Ob.nm_get hj] at this
     exact this
 · intro h k hk
   have h1 : Ob.Good (Ob.nm ys k) := by rw [Ob.nm_get hk]; exact h.1 _ (List.getElem_mem hk)
   refine ⟨h1, ?_⟩
   cases k with
   | zero => exact Ob.lt_empty (Ob.good_size h1)
   | succ k =>
     show Ob.bl (Ob.nm ys k) _ = true
     rw [Ob.nm_get (show k < ys.length by omega), Ob.nm_get hk]
     exact List.pairwise_iff_getElem.1 h.2 k (k + 1) (by omega) hk (by omega)
theorem Ob.places_iff (e : Int) (ys : List Ob.Y) : Ob.Places e ys ↔ ∀ y ∈ ys, 0 ≤ y.2 ∧ y.2 ≤ e ∧ y.2 % 4 = 0 := by
 constructor
 · intro h y hy
   obtain ⟨k, hk, rfl⟩ := List.getElem_of_mem hy
   have := h k hk
   unfold Ob.OkP at this
   rwa [Ob.pl_get hk] at this
 · intro h k hk
   unfold Ob.OkP
   rw [Ob.pl_get hk]
   exact h _ (List.getElem_mem hk)
theorem Ob.rises_iff (m : Nat) (ss : List Int) : Ch.Rises m ss ↔ (∀ s ∈ ss, 0 ≤ s ∧ s < (m : Int) ∧ s ≤ 65534) ∧ ss.Pairwise (· < ·) := by
 have hd : ∀ k (hk : k < ss.length), ss.getD k 0 = ss[k] := fun k hk => by rw [List.getD_eq_getElem?_getD, List.getElem?_eq_getElem hk]; rfl
 constructor
 · intro h
   refine ⟨fun s hs => ?_, List.pairwise_iff_getElem.2 fun i j hi hj hij => ?_⟩
   · obtain ⟨k, hk, rfl⟩ := List.getElem_of_mem hs
     have := Ch.at_ge h k hk
     rwa [hd k hk] at this
   · have := Ch.mono h i j hij hj
     rwa [hd i hi, hd j hj] at this
 · intro ⟨h, hp⟩ k hk
   have h1 := h _ (List.getElem_mem hk)
   unfold Ch.OkAt
   rw [hd k hk]
   refine ⟨?_, h1.2.1, h1.2.2⟩
   cases k with
   | zero => show (-1 : Int) < _; omega
   | succ k =>
     show ss.getD k 0 < _
     rw [hd k (by omega)]
     exact List.pairwise_iff_getElem.1 hp k (k + 1) (by omega) hk (by omega)
def Ob.pos (ys : List Ob.Y) (s : ByteArray) : Nat := (ys.takeWhile (fun y => Ob.bl y.1 s)).length
theorem Ob.pos_of : ∀ (ys : List Ob.Y) (s : ByteArray) (k : Nat), k ≤ ys.length → (∀ j, j < k → Ob.bl (Ob.nm ys j) s = true) → (k = ys.length ∨ Ob.bl (Ob.nm ys k) s = false) → Ob.pos ys s = k
 | [], s, k, h, _, _ => by simp at h; subst h; rfl
 | y :: ys, s, 0, _, _, h => by
   have h1 : Ob.bl y.1 s = false := by
    rcases h with h | h
    · simp at h
    · exact h
   unfold Ob.pos
   rw [List.takeWhile_cons, h1]; rfl
 | y :: ys, s, k + 1, h, hj, hk => by
   have h1 : Ob.bl y.1 s = true := hj 0 (by omega)
   have := Ob.pos_of ys s k (by simpa using h) (fun j hj' => hj (j + 1) (by omega)) (by
    rcases hk with hk | hk
    · exact Or.inl (by simpa using hk)
    · exact Or.inr hk)
   unfold Ob.pos at this ⊢
   rw [List.takeWhile_cons, h1]
   simp [this]
theorem Ob.pos_low (ys : List Ob.Y) (s : ByteArray) : ∀ y ∈ ys.take (Ob.pos ys s), Ob.bl y.1 s = true := by
 intro y hy
 have e : ys.take (Ob.pos ys s) = ys.takeWhile (fun y => Ob.bl y.1 s) := (List.prefix_iff_eq_take.1 (List.takeWhile_prefix _)).symm
 rw [e] at hy
 exact List.all_eq_true.1 (List.all_takeWhile (p := fun y : Ob.Y => Ob.bl y.1 s) (l := ys)) y hy
theorem Ob.pos_high : ∀ (ys : List Ob.Y) (s : ByteArray) (h : Ob.pos ys s < ys.length), Ob.bl (ys[Ob.pos ys s]).1 s = false
 | [], _, h => by simp at h
 | y :: ys, s, h => by
   cases q : Ob.bl y.1 s with
   | false =>
     have e : Ob.pos (y :: ys) s = 0 := by unfold Ob.pos; rw [List.takeWhile_cons, q]; rfl
     simp only [e]
     exact q
   | true =>
     have e : Ob.pos (y :: ys) s = Ob.pos ys s + 1 := by unfold Ob.pos; rw [List.takeWhile_cons, q]; simp
     simp only [e]
     exact Ob.pos_high ys s (by rw [e] at h; simpa using h)
def Ob.ins (ys : List Ob.Y) (s : ByteArray) (a : Int) : List Ob.Y :=
 if Ob.pos ys s < ys.length ∧ Ob.nm ys (Ob.pos ys s) = s then ys else ys.take (Ob.pos ys s) ++ (s, a) :: ys.drop (Ob.pos ys s)
theorem Ob.ins_mem {ys : List Ob.Y} {s : ByteArray} {a : Int} {y : Ob.Y} (h : y ∈ Ob.ins ys s a) : y ∈ ys ∨ y = (s, a) := by
 unfold Ob.ins at h
 split at h
 · exact Or.inl h
 · rcases List.mem_append.1 h with h | h
   · exact Or.inl (List.mem_of_mem_take h)
   · rcases List.mem_cons.1 h with h | h
     · exact Or.inr h
     · exact Or.inl (List.mem_of_mem_drop h)
theorem Ob.ins_len (ys : List Ob.Y) (s : ByteArray) (a : Int) : (Ob.ins ys s a).length ≤ ys.length + 1 := by
 unfold Ob.ins
 split
 · omega
 · simp; omega
theorem Ob.ins_rise {ys : List Ob.Y} {s : ByteArray} {a : Int} (h : Ob.Rise ys) (hs : Ob.Good s) : Ob.Rise (Ob.ins ys s a) := by
 refine ⟨fun y hy => ?_, ?_⟩
 · rcases Ob.ins_mem hy with q | q
   · exact h.1 y q
   · rw [q]; exact hs
 · unfold Ob.ins
   split
   · exact h.2
   · rename_i hn
     have hp := h.2
     rw [← List.take_append_drop (Ob.pos ys s) ys, List.pairwise_append] at hp
     obtain ⟨p1, p2, p3⟩ := hp
     have hhi : ∀ y ∈ ys.drop (Ob.pos ys s), Ob.bl s y.1 = true := by
      intro y hy
      rcases Nat.lt_or_ge (Ob.pos ys s) ys.length with c | c
      · have h1 := Ob.pos_high ys s c
        have h2 : Ob.bl s (ys[Ob.pos ys s]).1 = true := Ob.lt_of h1 (fun e => hn ⟨c, by rw [Ob.nm_get c]; exact e⟩)
        rw [List.drop_eq_getElem_cons c] at hy p2
        rcases List.mem_cons.1 hy with q | q
        · rw [q]; exact h2
        · exact Ob.lt_trans h2 ((List.pairwise_cons.1 p2).1 y q)
      · rw [List.drop_eq_nil_of_le c] at hy; simp at hy
     rw [List.pairwise_append, List.pairwise_cons]
     refine ⟨p1, ⟨hhi, p2⟩, fun x hx y hy => ?_⟩
     rcases List.mem_cons.1 hy with q | q
     · rw [q]; exact Ob.pos_low ys s x hx
     · exact p3 x hx y q
def Ob.fy (fs : ByteArray → ByteArray) (m : Nat) (ns : List ByteArray) : Nat → List Ob.Y
 | 0 => []
 | k + 1 => Ob.ins (Ob.fy fs m ns k) (fs (ns.getD k Ob.e0)) (4 * ((((ns.getD k Ob.e0).size : Int) + k) % ((m : Int) + 1)))
theorem Ob.fy_len (fs : ByteArray → ByteArray) (m : Nat) (ns : List ByteArray) : ∀ k, (Ob.fy fs m ns k).length ≤ k
 | 0 => Nat.le_refl _
 | k + 1 => Nat.le_trans (Ob.ins_len _ _ _) (by have := Ob.fy_len fs m ns k; omega)
theorem Ob.fy_rise {fs : ByteArray → ByteArray} (hf : ∀ s, Ob.Good (fs s)) (m : Nat) (ns : List ByteArray) : ∀ k, Ob.Rise (Ob.fy fs m ns k)
 | 0 => ⟨by simp [Ob.fy], List.Pairwise.nil⟩
 | k + 1 => Ob.ins_rise (Ob.fy_rise hf m ns k) (hf _)
theorem Ob.fy_mem {fs : ByteArray → ByteArray} {m : Nat} {ns : List ByteArray} {Q : Ob.Y → Prop} (h : ∀ k, Q (fs (ns.getD k Ob.e0), 4 * ((((ns.getD k Ob.e0).size : Int) + k) % ((m : Int) + 1)))) : ∀ k, ∀ y ∈ Ob.fy fs m ns k, Q y
 | 0, y, hy => by simp [Ob.fy] at hy
 | k + 1, y, hy => by
   rcases Ob.ins_mem hy with q | q
   · exact Ob.fy_mem h k y q
   · rw [q]; exact h k
theorem Ob.fy_place {fs : ByteArray → ByteArray} {m : Nat} {ns : List ByteArray} (k : Nat) : ∀ y ∈ Ob.fy fs m ns k, 0 ≤ y.2 ∧ y.2 ≤ 4 * (m : Int) ∧ y.2 % 4 = 0 :=
 Ob.fy_mem (Q := fun y => 0 ≤ y.2 ∧ y.2 ≤ 4 * (m : Int) ∧ y.2 % 4 = 0) (fun k => by
  have h1 := Int.emod_nonneg (((ns.getD k Ob.e0).size : Int) + k) (show (m : Int) + 1 ≠ 0 by omega)
  have h2 := Int.emod_lt_of_pos (((ns.getD k Ob.e0).size : Int) + k) (show (0 : Int) < (m : Int) + 1 by omega)
  generalize (((ns.getD k Ob.e0).size : Int) + k) % ((m : Int) + 1) = x at *
  refine ⟨?_, ?_, ?_⟩
  · show 0 ≤ 4 * x; omega
  · show 4 * x ≤ _; omega
  · show 4 * x % 4 = 0; omega) k
def Ob.fw (ws ss : List Int) : Nat → List Int
 | 0 => ws
 | k + 1 => (Ob.fw ws ss k).set (ss.getD k 0).toNat ((Ob.fw ws ss k).getD (ss.getD k 0).toNat 0 % (4 * (ws.length : Int) + 1))
theorem Ob.fw_len (ws ss : List Int) : ∀ k, (Ob.fw ws ss k).length = ws.length
 | 0 => rfl
 | k + 1 => by show ((Ob.fw ws ss k).set _ _).length = _; rw [List.length_set]; exact Ob.fw_len ws ss k
theorem Ob.fw_rng {ws : List Int} (ss : List Int) (hw : ∀ x ∈ ws, 0 ≤ x ∧ x < 4294967296) (hl : ws.length ≤ 1000000) : ∀ k, ∀ x ∈ Ob.fw ws ss k, 0 ≤ x ∧ x < 4294967296
 | 0 => hw
 | k + 1 => fun x hx => by
   rcases List.mem_or_eq_of_mem_set (show x ∈ (Ob.fw ws ss k).set _ _ from hx) with q | q
   · exact Ob.fw_rng ss hw hl k x q
   · have h1 := Int.emod_nonneg ((Ob.fw ws ss k).getD (ss.getD k 0).toNat 0) (show 4 * (ws.length : Int) + 1 ≠ 0 by omega)
     have h2 := Int.emod_lt_of_pos ((Ob.fw ws ss k).getD (ss.getD k 0).toNat 0) (show (0 : Int) < 4 * (ws.length : Int) + 1 by omega)
     omega
theorem Ob.fw_low (ws ss : List Int) : ∀ k, ∀ j, j < k → j < ss.length → (Ob.fw ws ss k).getD (ss.getD j 0).toNat 0 ≤ 4 * (ws.length : Int)
 | 0, j, hj, _ => by omega
 | k + 1, j, hj, hs => by
   show ((Ob.fw ws ss k).set _ _).getD _ 0 ≤ _
   rw [Ch.getD_set]
   split
   · have h2 := Int.emod_lt_of_pos ((Ob.fw ws ss k).getD (ss.getD k 0).toNat 0) (show (0 : Int) < 4 * (ws.length : Int) + 1 by omega)
     omega
   · rename_i hn
     rcases Nat.lt_or_ge j k with c | c
     · exact Ob.fw_low ws ss k j c hs
     · have e : j = k := by omega
       subst e
       have : ¬ (ss.getD j 0).toNat < (Ob.fw ws ss j).length := fun q => hn ⟨rfl, q⟩
       rw [List.getD_eq_getElem?_getD, List.getElem?_eq_none (by omega)]
       simp; omega
structure Rg (k : IntKind) (w : World) (A : Option Addr) (n c : Nat) (xs : List Int) : Prop where
 len : xs.length = n
 le : n ≤ c
 max : c ≤ maxLen
 nil : A = none → c = 0
 cel : ∀ ad, A = some ad → ∀ j x, xs[j]? = some x → w.cell? (ad.add j) = some (.int k x)
abbrev In (w : World) (A : Option Addr) (n c : Nat) (xs : List Int) : Prop := Rg .i64 w A n c xs
section
variable {k : IntKind} {w w' : World} {A : Option Addr} {n c : Nat} {xs : List Int}
theorem Rw.rg {L : Int} (h : Rw k L w A n c xs) : Rg k w A n c xs := ⟨h.len, h.le, h.max, h.nil, h.cel⟩
theorem Rg.rw {L : Int} (h : Rg k w A n c xs) (hr : ∀ x ∈ xs, 0 ≤ x ∧ x < L) : Rw k L w A n c xs := ⟨h.len, h.le, h.max, h.nil, hr, h.cel⟩
theorem Rg.empty (k : IntKind) (w : World) : Rg k w none 0 0 [] := ⟨rfl, Nat.le_refl _, by simp [maxLen], fun _ => rfl, by simp⟩
theorem Rg.lt {ad : Addr} (h : Rg k w (some ad) n c xs) (hn : 0 < n) : ad.block < w.heap.size := by
 have hl : 0 < xs.length := by have := h.len; omega
 have hx : xs[0]? = some xs[0] := List.getElem?_eq_getElem hl
 have := World.block_lt_of_cell? w _ (h.cel ad rfl 0 _ hx)
 unfold Addr.add at this
 split at this <;> exact this
theorem Rg.to (h : Rg k w A n c xs) (hk : ∀ ad, A = some ad → 0 < n → w'.heap[ad.block]? = w.heap[ad.block]?) : Rg k w' A n c xs :=
 ⟨h.len, h.le, h.max, h.nil, fun ad e j x hx => by
  have hj : j < xs.length := by
   rcases Nat.lt_or_ge j xs.length with h1 | h1
   · exact h1
   · rw [List.getElem?_eq_none h1] at hx; cases hx
  rw [World.cell?_of_block (w := w) (by rw [show (ad.add j).block = ad.block by cases j <;> rfl]; exact hk ad e (by have := h.len; omega))]
  exact h.cel ad e j x hx⟩
theorem Rg.below (h : Rg k w A n c xs) (hb : Below w.heap.size w w') : Rg k w' A n c xs :=
 h.to fun ad e hn => hb.block _ (by subst e; exact h.lt hn)
theorem Rg.addr {ad : Addr} (h : Rg k w (some ad) n c xs) (hn : 0 < n) : ∃ b off, ad = ⟨b, off, none⟩ := by
 have hl : 0 < xs.length := by have := h.len; omega
 have hx := h.cel ad rfl 0 _ (List.getElem?_eq_getElem hl)
 obtain ⟨b, off, spot⟩ := ad
 have hspot : spot = none := by simpa [Addr.add] using World.cell?_spot hx
 subst hspot
 exact ⟨b, off, rfl⟩
theorem Rg.place (h : Rg k w A n c xs) (hn : 0 < n) : ∃ b off, A = some ⟨b, off, none⟩ := by
 cases A with
 | none => have := h.nil rfl; have := h.le; omega
 | some ad => obtain ⟨b, off, rfl⟩ := h.addr hn; exact ⟨b, off, rfl⟩
theorem Rg.cellAt {b off : Nat} (h : Rg k w (some ⟨b, off, none⟩) n c xs) (j : Nat) (x : Int) (hx : xs[j]? = some x) : w.cell? ⟨b, off + j, none⟩ = some (.int k x) := by
 have := h.cel _ rfl j x hx
 rwa [show (⟨b, off, none⟩ : Addr).add j = ⟨b, off + j, none⟩ by cases j <;> simp [Addr.add]] at this
end
theorem Rg.at {k : IntKind} {w : World} {b off n c : Nat} {xs : List Int} (h : Rg k w (some ⟨b, off, none⟩) n c xs) (j : Nat) (hj : j < n) : w.cell? ⟨b, off + j, none⟩ = some (.int k (xs.getD j 0)) :=
 h.cellAt j _ (by rw [List.getD_eq_getElem?_getD, List.getElem?_eq_getElem (by have := h.len; omega)]; rfl)
theorem Rw.at {k : IntKind} {L : Int} {w : World} {b off n c : Nat} {xs : List Int} (h : Rw k L w (some ⟨b, off, none⟩) n c xs) (j : Nat) (hj : j < n) : w.cell? ⟨b, off + j, none⟩ = some (.int k (xs.getD j 0)) := h.rg.at j hj
theorem Rw.atR {k : IntKind} {L : Int} {w : World} {A : Option Addr} {n c : Nat} {xs : List Int} (h : Rw k L w A n c xs) (hL : 0 < L) (j : Nat) : 0 ≤ xs.getD j 0 ∧ xs.getD j 0 < L := by
 rw [List.getD_eq_getElem?_getD]
 cases hq : xs[j]? with
 | none => simp [hL]
 | some x => exact h.rng x (List.mem_of_getElem? hq)
theorem Rg.two {k : IntKind} {w : World} {g : Nat} {x y : Int} {t : TypeId} (h : Has g #[.int k x, .int k y] t w) : Rg k w (some ⟨g, 0, none⟩) 2 2 [x, y] :=
 ⟨rfl, Nat.le_refl _, by simp [maxLen], by simp, fun ad e j z hz => by
  cases e
  match j, hz with
  | 0, hz => simp at hz; subst hz; exact h.cell 0 _ rfl
  | 1, hz => simp at hz; subst hz; exact h.cell 1 _ rfl⟩
theorem Rg.one {k : IntKind} {w : World} {g : Nat} {x : Int} {t : TypeId} (h : Has g #[.int k x] t w) : Rg k w (some ⟨g, 0, none⟩) 1 1 [x] :=
 ⟨rfl, Nat.le_refl _, by simp [maxLen], by simp, fun ad e j y hy => by
  cases e
  match j, hy with
  | 0, hy => simp at hy; subst hy; exact h.cell 0 _ rfl⟩
def On (e : TypeId) (k : IntKind) (base : Nat) (A : Option Addr) (n c : Nat) (xs : List Int) (w : World) : Prop := w.ownsRow base e 1 (.slice A n c) n (xs.map (Value.int k))
section
variable {e : TypeId} {k : IntKind} {base g n c : Nat} {A : Option Addr} {xs : List Int} {w w' : World}
theorem Ow.on (h : Ow e k base g n c xs w) : On e k base (some ⟨g, 0, none⟩) n c xs w := h
theorem On.none (e : TypeId) (k : IntKind) (base : Nat) (w : World) : On e k base none 0 0 [] w := ⟨rfl, Or.inl ⟨rfl, rfl⟩⟩
theorem On.cases (h : On e k base A n c xs w) : (A = Option.none ∧ n = 0 ∧ c = 0 ∧ xs = []) ∨ ∃ g, A = some ⟨g, 0, Option.none⟩ ∧ Ow e k base g n c xs w := by
 obtain ⟨h1, h2⟩ := h
 rcases h2 with ⟨h2, h3⟩ | ⟨g', cap', cur, hv, h4⟩
 · cases h2
   refine Or.inl ⟨rfl, rfl, rfl, ?_⟩
   simpa using h1
 · cases hv
   exact Or.inr ⟨g', rfl, h1, Or.inr ⟨g', _, cur, rfl, h4⟩⟩
theorem On.rg (h : On e k base A n c xs w) : Rg k w A n c xs := by
 rcases h.cases with ⟨rfl, rfl, rfl, rfl⟩ | ⟨g, rfl, h⟩
 · exact Rg.empty k w
 · have h : Ow e k base g n c xs w := h
   obtain ⟨h1, h2, h3, h4, cur, hh, hs, ht⟩ := h.has
   refine ⟨h4, h2, h3, by simp, fun ad e j x hx => ?_⟩
   cases e
   rw [show (⟨g, 0, Option.none⟩ : Addr).add j = ⟨g, j, Option.none⟩ by cases j <;> simp [Addr.add]]
   have hj : j < n := by
    rcases Nat.lt_or_ge j n with h1 | h1
    · exact h1
    · rw [List.getElem?_eq_none (by omega)] at hx; cases hx
   refine hh.cell j _ ?_
   have : (cur.toList.take n)[j]? = some (Value.int k x) := by rw [ht, List.getElem?_map, hx]; rfl
   rw [List.getElem?_take, if_pos hj] at this
   simpa using this
theorem Ow.rg (h : Ow e k base g n c xs w) : Rg k w (some ⟨g, 0, none⟩) n c xs := h.on.rg
theorem Ow.at (h : Ow e k base g n c xs w) (j : Nat) (hj : j < n) : w.cell? ⟨g, j, none⟩ = some (.int k (xs.getD j 0)) := by
 have := h.rg.at j hj
 rwa [Nat.zero_add] at this
theorem On.below (h : On e k base A n c xs w) (hb : Below w.heap.size w w') : On e k base A n c xs w' := by
 rcases h.cases with ⟨rfl, rfl, rfl, rfl⟩ | ⟨g, rfl, h⟩
 · exact On.none _ _ _ _
 · have h : Ow e k base g n c xs w := h
   exact (h.below hb).on
theorem On.from (h : On e k base A n c xs w) (q : Nat) (hq : (Value.slice A n c).ownBlock = some q) : base ≤ q := by
 rcases h.cases with ⟨rfl, rfl, rfl, rfl⟩ | ⟨g, rfl, h⟩
 · cases hq
 · have h : Ow e k base g n c xs w := h
   cases hq; exact h.has.1
theorem Ow.lower {base' : Nat} (h : Ow e k base g n c xs w) (hb : base' ≤ base) : Ow e k base' g n c xs w := by
 obtain ⟨h1, h2, h3, h4, cur, h5, h6, h7⟩ := h.has
 exact Ow.mk' (by omega) h2 h3 h4 cur h5 h6 h7
theorem Ow.drew (h : Ow e k base g n c xs w) : Ow e k base g n c xs w.drew := h
end
section
variable {P : Program} {ops : Array Oper} {rest : List Oper} {o : Oper} {a : Act} {Q : Exit → Act → World → Prop} {w : World}
theorem append_rg {e t : TypeId} {k : IntKind} {by0 : Nat} (hu : P.underlying t = some (.slice e)) (hinf : (P.info? e).map (fun i => (i.zero, i.size, i.bytes)) = some (some (.int k 0), 1, by0)) (hby : by0 ≤ 8)
 (hgd : o.guard = none) (s x : Operand)
 (ho : o.op = .call { callee := .builtin .append, args := #[s, x], argTypes := #[t, t] }) (base g n cap : Nat) (xs : List Int) (hs : a.eval s = .slice (some ⟨g, 0, none⟩) n cap) (hown : Ow e k base g n cap xs w)
 (A : Option Addr) (m c : Nat) (ys : List Int) (hx : a.eval x = .slice A m c) (hY : Rg k w A m c ys) (hb : n + m ≤ 1000000000000) (hbase : base ≤ w.heap.size)
 (h : ∀ g' cap' w', Ow e k base g' (n + m) cap' (xs ++ ys) w' → w.grownBy w' (some g) → wpList P ops Q rest (a.put o.dst (.slice (some ⟨g', 0, none⟩) (n + m) cap')) w') : wpList P ops Q (o :: rest) a w := by
 obtain ⟨i0, hi, hz0, hz1, hz2⟩ := info_parts hinf
 cases A with
 | none =>
   have hc := hY.nil rfl
   have hm : m = 0 := by have := hY.le; omega
   subst hc hm
   have hy : ys = [] := List.eq_nil_of_length_eq_zero hY.len
   subst hy
   refine wpList_append_own_none hgd s x t ho base e i0 1 hu hi _ n _ hs hown hx ?_
   have := h g cap w (by rw [Nat.add_zero, List.append_nil]; exact hown) ⟨rfl, rfl, rfl, Nat.le_refl _, fun _ _ _ => rfl⟩
   exact this
 | some ad =>
   refine wpList_append_own w hgd s x t ho base e i0 (.int k 0) 1 by0 hu hi hz0 hz1 hz2 rfl (by decide) _ n (xs.map (Value.int k)) hs hown ad m c (ys.map (Value.int k)) hx (by rw [List.length_map, hY.len, Nat.mul_one]) ?_ ?_ (by unfold maxLen; omega) ?_ hbase ?_
   · intro j u hj
     rw [List.getElem?_map, Option.map_eq_some_iff] at hj
     obtain ⟨y, hy, rfl⟩ := hj
     exact hY.cel ad rfl j y hy
   · intro u hu
     obtain ⟨y, _, rfl⟩ := List.mem_map.1 hu
     rfl
   · have := Nat.mul_le_mul hb hby
     omega
   · intro v' w' h1 h2 h3
     have hv : ∃ g' cap', v' = .slice (some ⟨g', 0, none⟩) (n + m) cap' := by
      rcases h1.2 with ⟨h4, _⟩ | ⟨g', cap', cur, h4, _⟩
      · have := (h3.1 h4).1
        cases this
      · exact ⟨g', cap', h4⟩
     obtain ⟨g', cap', rfl⟩ := hv
     rw [← List.map_append] at h1
     exact h g' cap' w' h1 h2
end
def Ob.cells (ys : List Ob.Y) : List Value := ys.flatMap fun y => [.string y.1, .int .i64 y.2]
theorem Ob.cells_len (ys : List Ob.Y) : (Ob.cells ys).length = ys.length * 2 := by
 induction ys with
 | nil => rfl
 | cons y ys ih =>
   rw [show Ob.cells (y :: ys) = [.string y.1, .int .i64 y.2] ++ Ob.cells ys from rfl, List.length_append, ih]
   simp; omega
theorem Ob.cells_append (xs ys : List Ob.Y) : Ob.cells (xs ++ ys) = Ob.cells xs ++ Ob.cells ys := List.flatMap_append
theorem Ob.cells_at : ∀ (ys : List Ob.Y) (k : Nat) (y : Ob.Y), ys[k]? = some y → (Ob.cells ys)[k * 2]? = some (.string y.1) ∧ (Ob.cells ys)[k * 2 + 1]? = some (.int .i64 y.2)
 | [], k, y, h => by simp at h
 | z :: ys, 0, y, h => by
   simp at h; subst h
   exact ⟨rfl, rfl⟩
 | z :: ys, k + 1, y, h => by
   have := Ob.cells_at ys k y (by simpa using h)
   rw [show Ob.cells (z :: ys) = [.string z.1, .int .i64 z.2] ++ Ob.cells ys from rfl, show (k + 1) * 2 = 2 + k * 2 by omega]
   refine ⟨?_, ?_⟩
   · rw [List.getElem?_append_right (by simp), show 2 + k * 2 - List.length [Value.string z.1, Value.int .i64 z.2] = k * 2 by simp]; exact this.1
   · rw [List.getElem?_append_right (by simp; omega), show 2 + k * 2 + 1 - List.length [Value.string z.1, Value.int .i64 z.2] = k * 2 + 1 by simp; omega]; exact this.2
theorem Ob.cells_take : ∀ (ys : List Ob.Y) (k : Nat), Ob.cells (ys.take k) = (Ob.cells ys).take (k * 2)
 | [], k => by simp [Ob.cells]
 | z :: ys, 0 => by simp [Ob.cells]
 | z :: ys, k + 1 => by
   rw [List.take_succ_cons, show Ob.cells (z :: ys.take k) = .string z.1 :: .int .i64 z.2 :: Ob.cells (ys.take k) from rfl, Ob.cells_take ys k, show Ob.cells (z :: ys) = .string z.1 :: .int .i64 z.2 :: Ob.cells ys from rfl, show (k + 1) * 2 = k * 2 + 1 + 1 by omega, List.take_succ_cons, List.take_succ_cons]
theorem Ob.cells_drop : ∀ (ys : List Ob.Y) (k : Nat), Ob.cells (ys.drop k) = (Ob.cells ys).drop (k * 2)
 | [], k => by simp [Ob.cells]
 | z :: ys, 0 => by simp [Ob.cells]
 | z :: ys, k + 1 => by
   rw [List.drop_succ_cons, Ob.cells_drop ys k, show Ob.cells (z :: ys) = .string z.1 :: .int .i64 z.2 :: Ob.cells ys from rfl, show (k + 1) * 2 = k * 2 + 1 + 1 by omega, List.drop_succ_cons, List.drop_succ_cons]
theorem Ob.cells_one {u : Value} : ∀ {ys : List Ob.Y}, u ∈ Ob.cells ys → u.oneCell' = true := by
 intro ys hu
 obtain ⟨y, _, hy⟩ := List.mem_flatMap.1 hu
 simp only [List.mem_cons, List.not_mem_nil, or_false] at hy
 rcases hy with rfl | rfl <;> rfl
structure Sy (w : World) (A : Option Addr) (n c : Nat) (ys : List Ob.Y) : Prop where
 len : ys.length = n
 le : n ≤ c
 max : c ≤ maxLen
 nil : A = none → c = 0
 cel : ∀ ad, A = some ad → ∀ j v, (Ob.cells ys)[j]? = some v → w.cell? (ad.add j) = some v
section
variable {w w' : World} {A : Option Addr} {n c : Nat} {ys : List Ob.Y}
theorem Sy.empty (w : World) : Sy w none 0 0 [] := ⟨rfl, Nat.le_refl _, by simp [maxLen], fun _ => rfl, by simp⟩
theorem Sy.lt {ad : Addr} (h : Sy w (some ad) n c ys) (hn : 0 < n) : ad.block < w.heap.size := by
 have hl : 0 < (Ob.cells ys).length := by have := h.len; rw [Ob.cells_len]; omega
 have := World.block_lt_of_cell? w _ (h.cel ad rfl 0 _ (List.getElem?_eq_getElem hl))
 unfold Addr.add at this
 split at this <;> exact this
theorem Sy.to (h : Sy w A n c ys) (hk : ∀ ad, A = some ad → 0 < n → w'.heap[ad.block]? = w.heap[ad.block]?) : Sy w' A n c ys :=
 ⟨h.len, h.le, h.max, h.nil, fun ad e j v hv => by
  have hj : j < (Ob.cells ys).length := by
   rcases Nat.lt_or_ge j (Ob.cells ys).length with h1 | h1
   · exact h1
   · rw [List.getElem?_eq_none h1] at hv; cases hv
  rw [World.cell?_of_block (w := w) (by rw [show (ad.add j).block = ad.block by cases j <;> rfl]; exact hk ad e (by have := h.len; rw [Ob.cells_len] at hj; omega))]
  exact h.cel ad e j v hv⟩
theorem Sy.below (h : Sy w A n c ys) (hb : Below w.heap.size w w') : Sy w' A n c ys := h.to fun ad e hn => hb.block _ (by subst e; exact h.lt hn)
theorem Sy.addr {ad : Addr} (h : Sy w (some ad) n c ys) (hn : 0 < n) : ∃ b off, ad = ⟨b, off, none⟩ := by
 have hl : 0 < (Ob.cells ys).length := by have := h.len; rw [Ob.cells_len]; omega
 have hx := h.cel ad rfl 0 _ (List.getElem?_eq_getElem hl)
 obtain ⟨b, off, spot⟩ := ad
 have hspot : spot = none := by simpa [Addr.add] using World.cell?_spot hx
 subst hspot
 exact ⟨b, off, rfl⟩
theorem Sy.place (h : Sy w A n c ys) (hn : 0 < n) : ∃ b off, A = some ⟨b, off, none⟩ := by
 cases A with
 | none => have := h.nil rfl; have := h.le; omega
 | some ad => obtain ⟨b, off, rfl⟩ := h.addr hn; exact ⟨b, off, rfl⟩
theorem Sy.cellAt {b off : Nat} (h : Sy w (some ⟨b, off, none⟩) n c ys) (j : Nat) (v : Value) (hv : (Ob.cells ys)[j]? = some v) : w.cell? ⟨b, off + j, none⟩ = some v := by
 have := h.cel _ rfl j v hv
 rwa [show (⟨b, off, none⟩ : Addr).add j = ⟨b, off + j, none⟩ by cases j <;> simp [Addr.add]] at this
theorem Sy.name {b off : Nat} (h : Sy w (some ⟨b, off, none⟩) n c ys) (k : Nat) (hk : k < n) : w.cell? ⟨b, off + k * 2, none⟩ = some (.string (Ob.nm ys k)) :=
 h.cellAt _ _ (Ob.cells_at ys k _ (Ob.at_get (by rw [h.len]; exact hk))).1
theorem Sy.at {b off : Nat} (h : Sy w (some ⟨b, off, none⟩) n c ys) (k : Nat) (hk : k < n) : w.cell? ⟨b, off + k * 2 + 1, none⟩ = some (.int .i64 (Ob.pl ys k)) := by
 have := h.cellAt _ _ (Ob.cells_at ys k _ (Ob.at_get (by rw [h.len]; exact hk))).2
 rwa [show off + (k * 2 + 1) = off + k * 2 + 1 by omega] at this
theorem Sy.take (h : Sy w A n c ys) (m : Nat) (hm : m ≤ n) : Sy w A m c (ys.take m) :=
 ⟨by simp [h.len]; omega, by have := h.le; omega, h.max, h.nil, fun ad e j v hv => h.cel ad e j v (by
  rw [Ob.cells_take, List.getElem?_take] at hv
  split at hv
  · exact hv
  · cases hv)⟩
end
def Os (e : TypeId) (base : Nat) (A : Option Addr) (n c : Nat) (ys : List Ob.Y) (w : World) : Prop := w.ownsRow base e 2 (.slice A n c) n (Ob.cells ys)
section
variable {e : TypeId} {base g n c : Nat} {A : Option Addr} {ys : List Ob.Y} {w w' : World}
theorem Os.none (e : TypeId) (base : Nat) (w : World) : Os e base none 0 0 [] w := ⟨rfl, Or.inl ⟨rfl, rfl⟩⟩
theorem Os.has (h : Os e base (some ⟨g, 0, Option.none⟩) n c ys w) : base ≤ g ∧ n ≤ c ∧ c ≤ maxLen ∧ ys.length = n ∧ ∃ cur : Array Value, Has g cur e w ∧ cur.size = c * 2 ∧ cur.toList.take (n * 2) = Ob.cells ys := by
 obtain ⟨h1, h2⟩ := h
 rcases h2 with ⟨h2, _⟩ | ⟨g', cap', cur, hv, hb, hh, hle, hm, hs, ht⟩
 · cases h2
 · cases hv
   rw [Ob.cells_len] at h1
   exact ⟨hb, hle, hm, by omega, cur, hh, hs, ht⟩
theorem Os.mk' (hb : base ≤ g) (h1 : n ≤ c) (h2 : c ≤ maxLen) (h3 : ys.length = n) (cur : Array Value) (hh : Has g cur e w) (hs : cur.size = c * 2) (ht : cur.toList.take (n * 2) = Ob.cells ys) : Os e base (some ⟨g, 0, Option.none⟩) n c ys w :=
 ⟨by rw [Ob.cells_len, h3], Or.inr ⟨g, c, cur, rfl, hb, hh, h1, h2, hs, ht⟩⟩
theorem Os.cases (h : Os e base A n c ys w) : (A = Option.none ∧ n = 0 ∧ c = 0 ∧ ys = []) ∨ ∃ g, A = some ⟨g, 0, Option.none⟩ ∧ Os e base (some ⟨g, 0, Option.none⟩) n c ys w := by
 obtain ⟨h1, h2⟩ := h
 rcases h2 with ⟨h2, h3⟩ | ⟨g', cap', cur, hv, h4⟩
 · cases h2
   refine Or.inl ⟨rfl, rfl, rfl, ?_⟩
   rw [Ob.cells_len] at h1
   exact List.eq_nil_of_length_eq_zero (by omega)
 · cases hv
   exact Or.inr ⟨g', rfl, h1, Or.inr ⟨g', _, cur, rfl, h4⟩⟩
theorem Os.lt (h : Os e base (some ⟨g, 0, Option.none⟩) n c ys w) : g < w.heap.size := by
 obtain ⟨_, _, _, _, cur, hh, _⟩ := h.has; exact hh.lt
theorem Os.sy (h : Os e base A n c ys w) : Sy w A n c ys := by
 rcases h.cases with ⟨rfl, rfl, rfl, rfl⟩ | ⟨g, rfl, h⟩
 · exact Sy.empty w
 · obtain ⟨h1, h2, h3, h4, cur, hh, hs, ht⟩ := h.has
   refine ⟨h4, h2, h3, by simp, fun ad e j v hv => ?_⟩
   cases e
   rw [show (⟨g, 0, Option.none⟩ : Addr).add j = ⟨g, j, Option.none⟩ by cases j <;> simp [Addr.add]]
   refine hh.cell j _ ?_
   rw [← ht, List.getElem?_take] at hv
   split at hv
   · simpa using hv
   · cases hv
theorem Os.below (h : Os e base A n c ys w) (hb : Below w.heap.size w w') : Os e base A n c ys w' := by
 rcases h.cases with ⟨rfl, rfl, rfl, rfl⟩ | ⟨g, rfl, h⟩
 · exact Os.none _ _ _
 · obtain ⟨h1, h2, h3, h4, cur, h5, h6, h7⟩ := h.has
   exact Os.mk' h1 h2 h3 h4 cur ((hb.block g h.lt).trans h5) h6 h7
theorem Os.lower {base' : Nat} (h : Os e base A n c ys w) (hb : base' ≤ base) : Os e base' A n c ys w := by
 rcases h.cases with ⟨rfl, rfl, rfl, rfl⟩ | ⟨g, rfl, h⟩
 · exact Os.none _ _ _
 · obtain ⟨h1, h2, h3, h4, cur, h5, h6, h7⟩ := h.has
   exact Os.mk' (by omega) h2 h3 h4 cur h5 h6 h7
theorem Os.drew (h : Os e base A n c ys w) : Os e base A n c ys w.drew := h
theorem Os.new (e : TypeId) (w : World) (base : Nat) (hb : base ≤ w.heap.size) : Os e base (some ⟨w.heap.size, 0, Option.none⟩) 0 0 [] (w.alloc (.cells #[] e)) :=
 Os.mk' hb (Nat.le_refl _) (by simp [maxLen]) rfl #[] (heap_alloc_last _ _) rfl rfl
theorem Os.one (e : TypeId) (s : ByteArray) (a : Int) (w : World) (base : Nat) (hb : base ≤ w.heap.size) : Os e base (some ⟨w.heap.size, 0, Option.none⟩) 1 1 [(s, a)] (w.alloc (.cells #[.string s, .int .i64 a] e)) :=
 Os.mk' hb (Nat.le_refl _) (by simp [maxLen]) rfl #[.string s, .int .i64 a] (heap_alloc_last _ _) rfl rfl
end
section
variable {P : Program} {ops : Array Oper} {rest : List Oper} {o : Oper} {a : Act} {Q : Exit → Act → World → Prop} {w : World}
theorem append_sy {e t : TypeId} {z : Value} {by0 : Nat} (hu : P.underlying t = some (.slice e)) (hinf : (P.info? e).map (fun i => (i.zero, i.size, i.bytes)) = some (some z, 2, by0)) (hz2 : z.cells.size = 2) (hby : by0 ≤ 100)
 (hgd : o.guard = none) (s x : Operand)
 (ho : o.op = .call { callee := .builtin .append, args := #[s, x], argTypes := #[t, t] }) (base : Nat) (A : Option Addr) (n cap : Nat) (xs : List Ob.Y) (hs : a.eval s = .slice A n cap) (hown : Os e base A n cap xs w)
 (B : Option Addr) (m c : Nat) (ys : List Ob.Y) (hx : a.eval x = .slice B m c) (hY : Sy w B m c ys) (hb : n + m ≤ 1000000000000) (hbase : base ≤ w.heap.size) (hne : A ≠ none ∨ 0 < m)
 (h : ∀ g' cap' w', Os e base (some ⟨g', 0, none⟩) (n + m) cap' (xs ++ ys) w' → w.grownBy w' (Value.slice A n cap).ownBlock → wpList P ops Q rest (a.put o.dst (.slice (some ⟨g', 0, none⟩) (n + m) cap')) w') : wpList P ops Q (o :: rest) a w := by
 obtain ⟨i0, hi, hz0, hz1, hz2'⟩ := info_parts hinf
 cases B with
 | none =>
   have hc := hY.nil rfl
   have hm : m = 0 := by have := hY.le; omega
   subst hc hm
   have hy : ys = [] := List.eq_nil_of_length_eq_zero hY.len
   subst hy
   rcases hown.cases with ⟨rfl, _⟩ | ⟨g, rfl, _⟩
   · rcases hne with hne | hne
     · exact absurd rfl hne
     · omega
   · refine wpList_append_own_none hgd s x t ho base e i0 2 hu hi _ n _ hs hown hx ?_
     exact h g cap w (by rw [Nat.add_zero, List.append_nil]; exact hown) ⟨rfl, rfl, rfl, Nat.le_refl _, fun _ _ _ => rfl⟩
 | some ad =>
   refine wpList_append_own w hgd s x t ho base e i0 z 2 by0 hu hi hz0 hz1 hz2' hz2 (by decide) _ n (Ob.cells xs) hs hown ad m c (Ob.cells ys) hx (by rw [Ob.cells_len, hY.len]) (fun j u hj => hY.cel ad rfl j u hj) (fun u hu => Ob.cells_one hu) (by unfold maxLen; omega) ?_ hbase ?_
   · have := Nat.mul_le_mul hb hby
     omega
   · intro v' w' h1 h2 h3
     have hv : ∃ g' cap', v' = .slice (some ⟨g', 0, none⟩) (n + m) cap' := by
      rcases h1.2 with ⟨h4, h5⟩ | ⟨g', cap', cur, h4, _⟩
      · have := (h3.1 h4).1
        cases this
        rcases hne with hne | hne
        · exact absurd rfl hne
        · omega
      · exact ⟨g', cap', h4⟩
     obtain ⟨g', cap', rfl⟩ := hv
     rw [← Ob.cells_append] at h1
     exact h g' cap' w' h1 h2
end
abbrev Ob.v (A : Option Addr) (n c : Nat) (B : Option Addr) (m d : Nat) (C : Option Addr) (k e : Nat) : Array Value := #[.slice A n c, .slice B m d, .slice C k e]
end Go.Proofs.YtpfgmfiegnkocaaGreat
namespace Go.Proofs.YtpfgmfiegnkocaaGreat
set_option linter.unusedVariables false
section
variable {P : Program} {ops : Array Oper} {w : World} {Q : Act → Prop} {a : Act} {o : Oper} {rest : List Oper}
structure WS (P : Program) (ops : Array Oper) (w : World) (Q : Act → Prop) (l : List Oper) (a : Act) : Prop where
 out : wpStill P ops w Q l a
theorem WS.skip (hw : Region.wanted o (yielded ops a.tmps) = false) (h : WS P ops w Q rest (a.put o.dst undef)) : WS P ops w Q (o :: rest) a := by
 constructor
 unfold wpStill
 rw [if_neg (by rw [hw]; decide)]
 exact h.out
theorem WS.want (hw : Region.wanted o (yielded ops a.tmps) = true) (h : ∀ K : Act → Prop, (∀ a, WS P ops w Q rest a → K a) → o.still P a w K) : WS P ops w Q (o :: rest) a := by
 constructor
 unfold wpStill
 rw [if_pos hw]
 exact Oper.still_mono (fun _ h => h.out) (h (WS P ops w Q rest) (fun _ h => h))
theorem WS.step (hg : o.guard = none) (h : ∀ K : Act → Prop, (∀ a, WS P ops w Q rest a → K a) → o.still P a w K) : WS P ops w Q (o :: rest) a :=
 WS.want (by simp [Region.wanted, hg]) h
theorem WS.nil (h : Q a) : WS P ops w Q [] a := ⟨h⟩
theorem WS.start {id : Nat} {Q : Exit → Act → World → Prop} {a : Act} {w : World} {l : List Oper} (n : Nat) (hm : P.follows .mixedOrders = true) (hB : Region.lexTailB .any l.toArray n = true)
 (h : ∀ w', w' = w.drew → WS P l.toArray w' (fun a' => wpList P l.toArray Q (l.drop n) a' w') (l.take n) a) : (Code.region id l.toArray true).wp P Q a w :=
 wp_region_still_tail n hm hB (h _ rfl).out
end
end Go.Proofs.YtpfgmfiegnkocaaGreat
namespace Go.Proofs.YtpfgmfiegnkocaaGreat
open Go.RowKit
set_option linter.unusedVariables false
set_option linter.unusedSimpArgs false
set_option maxRecDepth 100000
theorem Ob.ret {a b : Int} (h : a = b) : Ending.returned (Value.int .i64 a) = .returned (.int .i64 b) := by rw [h]
theorem Ob.retB {a b : Bool} (h : a = b) : Ending.returned (Value.bool a) = .returned (.bool b) := by rw [h]
def Ob.First (n : Nat) (p : Nat → Bool) (r : Int) : Prop := (∃ k, k < n ∧ p k = true ∧ r = k) ∨ (r = -1 ∧ ∀ k, k < n → p k = false)
theorem Ob.First.has {n : Nat} {p : Nat → Bool} {r : Int} (h : Ob.First n p r) : decide (0 ≤ r) = decide (∃ k, k < n ∧ p k = true) := by
 apply decide_eq_decide.2
 rcases h with ⟨k, h1, h2, h3⟩ | ⟨h1, h2⟩
 · exact ⟨fun _ => ⟨k, h1, h2⟩, fun _ => by omega⟩
 · refine ⟨fun h => by omega, fun ⟨k, h3, h4⟩ => ?_⟩
   rw [h2 k h3] at h4; cases h4
set_option maxRecDepth 100000 in
theorem Ob.index_int {A : Option Addr} {n c : Nat} {ss : List Int} (caps : Array Value) (p : Nat → Bool) (I : Nat → World → Prop) (hS : ∀ k w, I k w → In w A n c ss)
 (hf : ∀ k w, k < n → I k w → Calls Tryz.prog 62 (#[.int .i64 (ss.getD k 0)] ++ caps) w fun e w' => e = .returned (.bool (p k)) ∧ I (k + 1) w') (w : World) (h0 : I 0 w) :
 Calls Tryz.prog 83 #[.slice A n c, .func (.func 62) #[] caps] w fun e w' => ∃ r, e = .returned (.int .i64 r) ∧ Ob.First n p r ∧ ∃ k, I k w' := by
 have h := hS 0 w h0
 have hl := h.len
 have hle := h.le
 have hmx := h.max
 unfold maxLen at hmx
 have hn1 : (n : Int) ≤ 9223372036854775807 := by omega
 have hA : n = 0 ∨ ∃ b off, A = some ⟨b, off, none⟩ := (Nat.eq_zero_or_pos n).imp_right h.place
 have H0 := Lib.hid h0
 replace hS := Lib.hid hS
 replace hf := Lib.hid hf
 clear h h0 hmx
 go_enter Tryz.func83, Tryz.ntmps83
 go_wp2
 go_loopw [5, 8] (fun _ i wr => ∃ k : Nat, k ≤ n ∧ i = .int .i64 k ∧ (∀ j, j < k → p j = false) ∧ I k wr) (fun _ i _ => n - (intOf i).toNat)
 case atStart => exact ⟨0, Nat.zero_le _, rfl, fun j hj => by omega, H0.out⟩
 case round =>
  obtain ⟨k, hk, rfl, ho, hI⟩ := hrel
  by_cases d1 : k < n
  · have d2 : (k : Int) < n := by omega
    rcases hA with h0 | ⟨b, off, rfl⟩
    · omega
    have g1 := (hS.out k wr hI).at k d1
    have C := Lib.hid (hf.out k wr d1 hI)
    clear hI
    generalize ss.getD k 0 = x at *
    cases q : p k with
    | true =>
      have R := Lib.hid (show Ob.First n p k from Or.inl ⟨k, d1, q, rfl⟩)
      rw [q] at C
      clear ho q
      trace_state
      go_wp2_with (fail)
      trace_state
      refine C.out.mono ?_; rintro e w2 ⟨rfl, hI⟩
      replace hI := Lib.hid hI
      go_wp2
      go_ret
      exact ⟨_, rfl, R.out, _, hI.out⟩
    | false =>
      have R := Lib.hid (show ∀ j, j < k + 1 → p j = false from fun j hj => by
       rcases Nat.lt_or_ge j k with h | h
       · exact ho j h
       · rw [show j = k by omega]; exact q)
      rw [q] at C
      clear ho q
      go_wp2_with (fail)
      refine C.out.mono ?_; rintro e w2 ⟨rfl, hI⟩
      replace hI := Lib.hid hI
      go_wp2
      go_roundw
      case rel => exact ⟨k + 1, by omega, by go_num, R.out, hI.out⟩
      case measure => simp [intOf]; omega
  · have d2 : ¬ (k : Int) < n := by omega
    have R := Lib.hid (show Ob.First n p (-1) from Or.inr ⟨rfl, fun j hj => ho j (by omega)⟩)
    replace hI := Lib.hid hI
    clear ho
    go_wp2
    go_ret
    exact ⟨_, rfl, R.out, _, hI.out⟩
theorem Ob.contains_int {A : Option Addr} {n c : Nat} {ss : List Int} (caps : Array Value) (p : Nat → Bool) (I : Nat → World → Prop) (hS : ∀ k w, I k w → In w A n c ss)
 (hf : ∀ k w, k < n → I k w → Calls Tryz.prog 62 (#[.int .i64 (ss.getD k 0)] ++ caps) w fun e w' => e = .returned (.bool (p k)) ∧ I (k + 1) w') (w : World) (h0 : I 0 w) :
 Calls Tryz.prog 64 #[.slice A n c, .func (.func 62) #[] caps] w fun e w' => e = .returned (.bool (decide (∃ k, k < n ∧ p k = true))) ∧ ∃ k, I k w' := by
 have C := Lib.hid (Ob.index_int caps p I hS hf w h0)
 clear hS hf h0
 go_enter Tryz.func64, Tryz.ntmps64
 go_wp2_with (fail)
 refine C.out.mono ?_; rintro e w2 ⟨r, rfl, hF, hI⟩
 replace hF := Lib.hid hF.has
 replace hI := Lib.hid hI
 go_wp2
 go_ret
 exact ⟨Ob.retB hF.out, hI.out⟩
set_option maxRecDepth 100000 in
theorem Ob.index_at {A : Option Addr} {n c : Nat} {ys : List Ob.Y} (caps : Array Value) (p : Nat → Bool) (I : Nat → World → Prop) (hS : ∀ k w, I k w → Sy w A n c ys)
 (hf : ∀ k w, k < n → I k w → Calls Tryz.prog 63 (#[.agg #[.string (Ob.nm ys k), .int .i64 (Ob.pl ys k)]] ++ caps) w fun e w' => e = .returned (.bool (p k)) ∧ I (k + 1) w') (w : World) (h0 : I 0 w) :
 Calls Tryz.prog 84 #[.slice A n c, .func (.func 63) #[] caps] w fun e w' => ∃ r, e = .returned (.int .i64 r) ∧ Ob.First n p r ∧ ∃ k, I k w' := by
 have h := hS 0 w h0
 have hl := h.len
 have hle := h.le
 have hmx := h.max
 unfold maxLen at hmx
 have hn1 : (n : Int) ≤ 9223372036854775807 := by omega
 have hA : n = 0 ∨ ∃ b off, A = some ⟨b, off, none⟩ := (Nat.eq_zero_or_pos n).imp_right h.place
 have H0 := Lib.hid h0
 replace hS := Lib.hid hS
 replace hf := Lib.hid hf
 clear h h0 hmx
 go_enter Tryz.func84, Tryz.ntmps84
 go_wp2
 go_loopw [5, 8] (fun _ i wr => ∃ k : Nat, k ≤ n ∧ i = .int .i64 k ∧ (∀ j, j < k → p j = false) ∧ I k wr) (fun _ i _ => n - (intOf i).toNat)
 case atStart => exact ⟨0, Nat.zero_le _, rfl, fun j hj => by omega, H0.out⟩
 case round =>
  obtain ⟨k, hk, rfl, ho, hI⟩ := hrel
  by_cases d1 : k < n
  · have d2 : (k : Int) < n := by omega
    rcases hA with h0 | ⟨b, off, rfl⟩
    · omega
    have g1 := (hS.out k wr hI).name k d1
    have g2 := (hS.out k wr hI).at k d1
    have C := Lib.hid (hf.out k wr d1 hI)
    clear hI
    generalize Ob.nm ys k = x at *
    generalize Ob.pl ys k = y at *
    cases q : p k with
    | true =>
      have R := Lib.hid (show Ob.First n p k from Or.inl ⟨k, d1, q, rfl⟩)
      rw [q] at C
      clear ho q
      go_wp2_with (fail)
      refine C.out.mono ?_; rintro e w2 ⟨rfl, hI⟩
      replace hI := Lib.hid hI
      go_wp2
      go_ret
      exact ⟨_, rfl, R.out, _, hI.out⟩
    | false =>
      have R := Lib.hid (show ∀ j, j < k + 1 → p j = false from fun j hj => by
       rcases Nat.lt_or_ge j k with h | h
       · exact ho j h
       · rw [show j = k by omega]; exact q)
      rw [q] at C
      clear ho q
      go_wp2_with (fail)
      refine C.out.mono ?_; rintro e w2 ⟨rfl, hI⟩
      replace hI := Lib.hid hI
      go_wp2
      go_roundw
      case rel => exact ⟨k + 1, by omega, by go_num, R.out, hI.out⟩
      case measure => simp [intOf]; omega
  · have d2 : ¬ (k : Int) < n := by omega
    have R := Lib.hid (show Ob.First n p (-1) from Or.inr ⟨rfl, fun j hj => ho j (by omega)⟩)
    replace hI := Lib.hid hI
    clear ho
    go_wp2
    go_ret
    exact ⟨_, rfl, R.out, _, hI.out⟩
theorem Ob.contains_at {A : Option Addr} {n c : Nat} {ys : List Ob.Y} (caps : Array Value) (p : Nat → Bool) (I : Nat → World → Prop) (hS : ∀ k w, I k w → Sy w A n c ys)
 (hf : ∀ k w, k < n → I k w → Calls Tryz.prog 63 (#[.agg #[.string (Ob.nm ys k), .int .i64 (Ob.pl ys k)]] ++ caps) w fun e w' => e = .returned (.bool (p k)) ∧ I (k + 1) w') (w : World) (h0 : I 0 w) :
 Calls Tryz.prog 65 #[.slice A n c, .func (.func 63) #[] caps] w fun e w' => e = .returned (.bool (decide (∃ k, k < n ∧ p k = true))) ∧ ∃ k, I k w' := by
 have C := Lib.hid (Ob.index_at caps p I hS hf w h0)
 clear hS hf h0
 go_enter Tryz.func65, Tryz.ntmps65
 go_wp2_with (fail)
 refine C.out.mono ?_; rintro e w2 ⟨r, rfl, hF, hI⟩
 replace hF := Lib.hid hF.has
 replace hI := Lib.hid hI
 go_wp2
 go_ret
 exact ⟨Ob.retB hF.out, hI.out⟩
set_option maxRecDepth 100000 in
theorem Ob.index_turn {A : Option Addr} {n c : Nat} {ys : List Ob.Y} (caps : Array Value) (p : Nat → Bool) (I : Nat → World → Prop) (hS : ∀ k w, I k w → Sy w A n c ys)
 (hf : ∀ k w, k < n → I k w → Calls Tryz.prog 85 (#[.agg #[.string (Ob.nm ys k), .int .i64 (Ob.pl ys k)]] ++ caps) w fun e w' => e = .returned (.bool (p k)) ∧ I (k + 1) w') (w : World) (h0 : I 0 w) :
 Calls Tryz.prog 84 #[.slice A n c, .func (.func 85) #[] caps] w fun e w' => ∃ r, e = .returned (.int .i64 r) ∧ Ob.First n p r ∧ ∃ k, I k w' := by
 have h := hS 0 w h0
 have hl := h.len
 have hle := h.le
 have hmx := h.max
 unfold maxLen at hmx
 have hn1 : (n : Int) ≤ 9223372036854775807 := by omega
 have hA : n = 0 ∨ ∃ b off, A = some ⟨b, off, none⟩ := (Nat.eq_zero_or_pos n).imp_right h.place
 have H0 := Lib.hid h0
 replace hS := Lib.hid hS
 replace hf := Lib.hid hf
 clear h h0 hmx
 go_enter Tryz.func84, Tryz.ntmps84
 go_wp2
 go_loopw [5, 8] (fun _ i wr => ∃ k : Nat, k ≤ n ∧ i = .int .i64 k ∧ (∀ j, j < k → p j = false) ∧ I k wr) (fun _ i _ => n - (intOf i).toNat)
 case atStart => exact ⟨0, Nat.zero_le _, rfl, fun j hj => by omega, H0.out⟩
 case round =>
  obtain ⟨k, hk, rfl, ho, hI⟩ := hrel
  by_cases d1 : k < n
  · have d2 : (k : Int) < n := by omega
    rcases hA with h0 | ⟨b, off, rfl⟩
    · omega
    have g1 := (hS.out k wr hI).name k d1
    have g2 := (hS.out k wr hI).at k d1
    have C := Lib.hid (hf.out k wr d1 hI)
    clear hI
    generalize Ob.nm ys k = x at *
    generalize Ob.pl ys k = y at *
    cases q : p k with
    | true =>
      have R := Lib.hid (show Ob.First n p k from Or.inl ⟨k, d1, q, rfl⟩)
      rw [q] at C
      clear ho q
      go_wp2_with (fail)
      refine C.out.mono ?_; rintro e w2 ⟨rfl, hI⟩
      replace hI := Lib.hid hI
      go_wp2
      go_ret
      exact ⟨_, rfl, R.out, _, hI.out⟩
    | false =>
      have R := Lib.hid (show ∀ j, j < k + 1 → p j = false from fun j hj => by
       rcases Nat.lt_or_ge j k with h | h
       · exact ho j h
       · rw [show j = k by omega]; exact q)
      rw [q] at C
      clear ho q
      go_wp2_with (fail)
      refine C.out.mono ?_; rintro e w2 ⟨rfl, hI⟩
      replace hI := Lib.hid hI
      go_wp2
      go_roundw
      case rel => exact ⟨k + 1, by omega, by go_num, R.out, hI.out⟩
      case measure => simp [intOf]; omega
  · have d2 : ¬ (k : Int) < n := by omega
    have R := Lib.hid (show Ob.First n p (-1) from Or.inr ⟨rfl, fun j hj => ho j (by omega)⟩)
    replace hI := Lib.hid hI
    clear ho
    go_wp2
    go_ret
    exact ⟨_, rfl, R.out, _, hI.out⟩
theorem Ob.contains_turn {A : Option Addr} {n c : Nat} {ys : List Ob.Y} (caps : Array Value) (p : Nat → Bool) (I : Nat → World → Prop) (hS : ∀ k w, I k w → Sy w A n c ys)
 (hf : ∀ k w, k < n → I k w → Calls Tryz.prog 85 (#[.agg #[.string (Ob.nm ys k), .int .i64 (Ob.pl ys k)]] ++ caps) w fun e w' => e = .returned (.bool (p k)) ∧ I (k + 1) w') (w : World) (h0 : I 0 w) :
 Calls Tryz.prog 65 #[.slice A n c, .func (.func 85) #[] caps] w fun e w' => e = .returned (.bool (decide (∃ k, k < n ∧ p k = true))) ∧ ∃ k, I k w' := by
 have C := Lib.hid (Ob.index_turn caps p I hS hf w h0)
 clear hS hf h0
 go_enter Tryz.func65, Tryz.ntmps65
 go_wp2_with (fail)
 refine C.out.mono ?_; rintro e w2 ⟨r, rfl, hF, hI⟩
 replace hF := Lib.hid hF.has
 replace hI := Lib.hid hI
 go_wp2
 go_ret
 exact ⟨Ob.retB hF.out, hI.out⟩
theorem Ob.beyond_any {w : World} {B E : Nat} {b1 o1 n c : Nat} {V1 V2 : Value} {ws : List Int} (g1 : w.cell? ⟨B, 0, none⟩ = some (.slice (some ⟨b1, o1, none⟩) n c)) (hw : Wo w (some ⟨b1, o1, none⟩) n c ws) {e : Int} (g2 : w.cell? ⟨E, 0, none⟩ = some (.int .i64 e)) (s : Nat) (hs : s < n) :
 Calls Tryz.prog 62 #[.int .i64 s, .pointer (some ⟨B, 0, none⟩), .pointer (some ⟨E, 0, none⟩)] w fun e' w' => e' = .returned (.bool (decide (e < ws.getD s 0))) ∧ Below w.heap.size w w' := by
 have g3 := hw.at s hs
 have hle := hw.le
 have hmx := hw.max
 unfold maxLen at hmx
 have hs1 : (s : Int) < n := by omega
 have hr := hw.atR (by omega) s
 have hm := Lib.hid (Below.refl w.heap.size w)
 clear hw
 generalize ws.getD s 0 = x at *
 go_enter Tryz.func62, Tryz.ntmps62
 go_wp2
 go_quiet (fail)
 go_wp2
 trace_state
 go_ret
 exact ⟨rfl, Bel.drewN hm.out _⟩
theorem Ch.info32 : (Tryz.prog.info? 43).map (fun i => (i.zero, i.size, i.bytes)) = some (some (.int .u32 0), 1, 4) := by kernel_rfl
theorem Ch.info64 : (Tryz.prog.info? 3).map (fun i => (i.zero, i.size, i.bytes)) = some (some (.int .i64 0), 1, 8) := by kernel_rfl
theorem Ch.before {m : Nat} {ss : List Int} {k : Nat} (h : ∀ j, j < k → Ch.OkAt m ss j) (hk : Ch.OkAt m ss k) : ∀ j, j < k + 1 → Ch.OkAt m ss j := fun j hj => by
 rcases Nat.lt_or_ge j k with c | c
 · exact h j c
 · rw [show j = k by omega]; exact hk
theorem retB {a b : Bool} (h : a = b) : Ending.returned (Value.bool a) = .returned (.bool b) := by rw [h]
set_option maxRecDepth 100000 in
theorem Ch.sites_any {w : World} {A : Option Addr} {n c : Nat} {ss : List Int} (h : In w A n c ss) (m : Nat) (hm : m ≤ 1000000) :
 Calls Tryz.prog 82 #[.slice A n c, .int .i64 m] w fun e w' => e = .returned (.bool (decide (Ch.Rises m ss))) ∧ w = w' := by
 have hl := h.len
 have hle := h.le
 have hmx := h.max
 unfold maxLen at hmx
 have hn1 : (n : Int) ≤ 9223372036854775807 := by omega
 have hA : n = 0 ∨ ∃ b off, A = some ⟨b, off, none⟩ := (Nat.eq_zero_or_pos n).imp_right h.place
 have H := Lib.hid h
 clear h hmx
 go_enter Tryz.func82, Tryz.ntmps82
 go_wp2
 go_loopw [5, 7, 10] (fun l _ i wr => ∃ k : Nat, k ≤ n ∧ i = .int .i64 k ∧ l = .int .i64 (Ch.prev ss k) ∧ (∀ j, j < k → Ch.OkAt m ss j) ∧ w = wr) (fun _ _ i _ => n - (intOf i).toNat)
 case atStart => exact ⟨0, Nat.zero_le _, rfl, rfl, fun j hj => by omega, rfl⟩
 case round =>
  obtain ⟨k, hk, rfl, rfl, ho, rfl⟩ := hrel
  by_cases d1 : k < n
  · have d2 : (k : Int) < n := by omega
    rcases hA with h0 | ⟨b, off, rfl⟩
    · omega
    have g1 := H.out.at k d1
    have hN := Lib.hid (show Ch.prev ss (k + 1) = ss.getD k 0 from rfl)
    by_cases c : Ch.OkAt m ss k
    · have R := Lib.hid (Ch.before ho c)
      obtain ⟨c1, c2, c3⟩ := c
      clear ho
      generalize ss.getD k 0 = x at *
      generalize Ch.prev ss k = y at *
      have e1 : ¬ x ≤ y := by omega
      have e2 : ¬ (m : Int) ≤ x := by omega
      have e3 : ¬ 65534 < x := by omega
      clear c1 c2 c3
      go_wp2
      go_roundw
      case rel => exact ⟨k + 1, by omega, by go_num, by rw [hN.out], R.out, by trivial⟩
      case measure => simp [intOf]; omega
    · have R := Lib.hid (show ¬ Ch.Rises m ss from fun r => c (r k (by omega)))
      unfold Ch.OkAt at c
      clear ho
      generalize ss.getD k 0 = x at *
      generalize Ch.prev ss k = y at *
      by_cases e1 : x ≤ y
      · go_wp2
        go_ret
        exact ⟨retB (decide_eq_false R.out).symm, rfl⟩
      · by_cases e2 : (m : Int) ≤ x
        · go_wp2
          go_ret
          exact ⟨retB (decide_eq_false R.out).symm, rfl⟩
        · have e3 : 65534 < x := by omega
          clear c
          go_wp2
          go_ret
          exact ⟨retB (decide_eq_false R.out).symm, rfl⟩
  · have R := Lib.hid (show Ch.Rises m ss from fun j hj => ho j (by omega))
    have hkn : ¬ (k : Int) < n := by omega
    clear ho
    go_wp2
    go_ret
    exact ⟨retB (decide_eq_true R.out).symm, rfl⟩
set_option maxRecDepth 100000 in
theorem Ch.clone_any {w : World} {A : Option Addr} {n c : Nat} {ws : List Int} (h : Wo w A n c ws) (hn : n ≤ 1000000) :
 Calls Tryz.prog 36 #[.slice A n c] w fun e w' => ∃ A' c', e = .returned (.slice A' n c') ∧ On 43 .u32 w.heap.size A' n c' ws w' ∧ Below w.heap.size w w' := by
 cases A with
 | none =>
   have hc := h.nil rfl
   have hle := h.le
   have hl := h.len
   obtain rfl : n = 0 := by omega
   obtain rfl : c = 0 := by omega
   obtain rfl : ws = [] := List.eq_nil_of_length_eq_zero hl
   have hnil : ∀ W, (binOp .eql 22 (.slice none 0 0) (.slice none 0 0)).run Tryz.prog W = .ok (.bool true) W := fun W => Lib.run_eql_slice_nil_nil W _ _ Tryz.underlying22
   go_enter Tryz.func36, Tryz.ntmps36
   go_wp2
   go_ret
   exact ⟨none, 0, rfl, On.none _ _ _ _, Below.refl _ _⟩
 | some ad =>
   have hl := h.len
   have hB := ((Kept.refl w).alloc #[] 43).below
   have hW := Lib.hid (h.below hB)
   have hO := Lib.hid (Ow.new 43 .u32 w w.heap.size (Nat.le_refl _))
   have hs := hB.size
   replace hB := Lib.hid hB
   clear h
   have hnil : ∀ W, (binOp .eql 22 (.slice (some ad) n c) (.slice none 0 0)).run Tryz.prog W = .ok (.bool false) W := fun W => Lib.run_eql_slice_nil W _ _ (some ad) n c _ _ Tryz.underlying22
   go_enter Tryz.func36, Tryz.ntmps36
   go_wp2_with (with_reducible refine append_row (o := ⟨some 7, _, _, _, _, _⟩) Tryz.underlying22 Ch.info32 (by omega) rfl (.tmp 5) (.tmp 6) rfl w.heap.size w.heap.size 0 0 [] rfl hO.out _ n c ws rfl hW.out (by omega) hs ?_; intro g3 cap3 w3 hO3 hG3)
   rw [List.nil_append, Nat.zero_add] at hO3
   have hB3 := Lib.hid (hB.out.grown hG3 hs (fun q e => by cases e; exact Nat.le_refl _))
   replace hO3 := Lib.hid hO3
   clear hG3 hO hB hW hs
   go_wp2
   go_ret
   exact ⟨_, cap3, rfl, hO3.out, hB3.out⟩
def Ch.Half (n i : Nat) (xs ys : List Int) : Prop := ys.length = n ∧ ∀ q, q < n → ys.getD q 0 = if q < i ∨ n - i ≤ q then xs.getD (n - 1 - q) 0 else xs.getD q 0
theorem Ch.low {m : Nat} {ss : List Int} {k : Nat} (ho : ∀ j, j < k + 1 → Ch.OkAt m ss j) (hk : k + 1 ≤ ss.length) : -1 ≤ ss.getD k 0 := by
 have c0 := Ch.prev_ge (m := m) (ss := ss.take (k + 1)) (fun j hj => by
  have hj2 : j < k + 1 := by simp at hj; omega
  have := ho j hj2
  have e : ∀ q, q < k + 1 → (ss.take (k + 1)).getD q 0 = ss.getD q 0 := fun q hq => by rw [List.getD_eq_getElem?_getD, List.getElem?_take, if_pos hq, List.getD_eq_getElem?_getD]
  have e2 : Ch.prev (ss.take (k + 1)) j = Ch.prev ss j := by
   cases j with
   | zero => rfl
   | succ j => exact e j (by omega)
  unfold Ch.OkAt at *
  rw [e2, e j hj2]
  exact this) (k + 1) (by simp; omega)
 have : Ch.prev (ss.take (k + 1)) (k + 1) = ss.getD k 0 := by
  show (ss.take (k + 1)).getD k 0 = _
  rw [List.getD_eq_getElem?_getD, List.getElem?_take, if_pos (by omega), List.getD_eq_getElem?_getD]
 omega
set_option maxRecDepth 100000 in
set_option maxHeartbeats 4000000 in
theorem Ch.rise_any {w : World} {A : Option Addr} {n c : Nat} {ss : List Int} (h : In w A n c ss) (m : Nat) (hm : m ≤ 1000000) :
 Calls Tryz.prog 67 #[.slice A n c, .int .i64 m] w fun e w' => e = .returned (.bool (decide (Ch.Rises m ss))) ∧ Below w.heap.size w w' := by
 have hl := h.len
 have hle := h.le
 have hmx := h.max
 unfold maxLen at hmx
 have hn1 : (n : Int) ≤ 9223372036854775807 := by omega
 have hA : n = 0 ∨ ∃ b off, A = some ⟨b, off, none⟩ := (Nat.eq_zero_or_pos n).imp_right h.place
 have H := Lib.hid h
 clear h hmx
 go_enter Tryz.func67, Tryz.ntmps67
 go_wp2
 go_loopw [5] (fun i wr => ∃ k : Nat, k ≤ n ∧ i = .int .i64 k ∧ (∀ j, j < k → Ch.OkAt m ss j) ∧ Kept w wr) (fun i _ => n - (intOf i).toNat)
 case atStart => exact ⟨0, Nat.zero_le _, rfl, fun j hj => by omega, Kept.refl w⟩
 case round =>
  obtain ⟨k, hk, rfl, ho, hK⟩ := hrel
  by_cases d1 : k < n
  · have d2 : (k : Int) < n := by omega
    rcases hA with h0 | ⟨b, off, rfl⟩
    · omega
    have g1 := (hK.cell (p := ⟨b, off + k, none⟩) (H.out.lt (by omega))).trans (H.out.at k d1)
    by_cases c : Ch.OkAt m ss k
    · have R := Lib.hid (Ch.before ho c)
      cases k with
      | zero =>
        obtain ⟨c1, c2, c3⟩ := c
        replace c1 : -1 < ss.getD 0 0 := c1
        replace hK := Lib.hid hK
        clear ho
        generalize ss.getD 0 0 = x at *
        have e1 : ¬ x < 0 := by omega
        have e2 : ¬ (m : Int) ≤ x := by omega
        have e3 : ¬ 65534 < x := by omega
        have q1 : decide (x < 0) = false := decide_eq_false e1
        have q2 : decide ((m : Int) ≤ x) = false := decide_eq_false e2
        have q3 : decide (65534 < x) = false := decide_eq_false e3
        rw [Nat.add_zero] at g1
        clear c1 c2 c3
        go_wp2_with (fail)
        refine WS.start 35 (by kernel_rfl) (by kernel_rfl) ?_
        intro w2 hw2
        replace g1 := (show wr.drew.cell? _ = some _ from g1)
        rw [← hw2] at g1
        replace hK := Lib.hid (show Kept w w2 by rw [hw2]; exact hK.out.drew)
        clear hw2
        simp only [List.take_succ_cons, List.take_zero, List.drop_succ_cons, List.drop_zero]
        refine WS.step rfl (fun K hK => ?_); go_simp; (try (simp only [q1, q2, q3]; (try go_simp))); refine hK _ ?_; clear hK K
        refine WS.step rfl (fun K hK => ?_); go_simp; (try (simp only [q1, q2, q3]; (try go_simp))); refine hK _ ?_; clear hK K
        refine WS.step rfl (fun K hK => ?_); go_simp; (try (simp only [q1, q2, q3]; (try go_simp))); refine hK _ ?_; clear hK K
        refine WS.step rfl (fun K hK => ?_); go_simp; (try (simp only [q1, q2, q3]; (try go_simp))); refine hK _ ?_; clear hK K
        refine WS.step rfl (fun K hK => ?_); go_simp; (try (simp only [q1, q2, q3]; (try go_simp))); refine hK _ ?_; clear hK K
        refine WS.step rfl (fun K hK => ?_); go_simp; (try (simp only [q1, q2, q3]; (try go_simp))); refine hK _ ?_; clear hK K
        refine WS.want rfl (fun K hK => ?_); go_simp; (try (simp only [q1, q2, q3]; (try go_simp))); refine hK _ ?_; clear hK K
        refine WS.want rfl (fun K hK => ?_); go_simp; (try (simp only [q1, q2, q3]; (try go_simp))); refine hK _ ?_; clear hK K
        refine WS.want rfl (fun K hK => ?_); go_simp; (try (simp only [q1, q2, q3]; (try go_simp))); refine hK _ ?_; clear hK K
        refine WS.want rfl (fun K hK => ?_); go_simp; (try (simp only [q1, q2, q3]; (try go_simp))); refine hK _ ?_; clear hK K
        refine WS.want rfl (fun K hK => ?_); go_simp; (try (simp only [q1, q2, q3]; (try go_simp))); refine hK _ ?_; clear hK K
        refine WS.want rfl (fun K hK => ?_); go_simp; (try (simp only [q1, q2, q3]; (try go_simp))); refine hK _ ?_; clear hK K
        refine WS.step rfl (fun K hK => ?_); go_simp; (try (simp only [q1, q2, q3]; (try go_simp))); refine hK _ ?_; clear hK K
        refine WS.step rfl (fun K hK => ?_); go_simp; (try (simp only [q1, q2, q3]; (try go_simp))); refine hK _ ?_; clear hK K
        refine WS.want rfl (fun K hK => ?_); go_simp; (try (simp only [q1, q2, q3]; (try go_simp))); refine hK _ ?_; clear hK K
        refine WS.want rfl (fun K hK => ?_); go_simp; (try (simp only [q1, q2, q3]; (try go_simp))); refine hK _ ?_; clear hK K
        refine WS.want rfl (fun K hK => ?_); go_simp; (try (simp only [q1, q2, q3]; (try go_simp))); refine hK _ ?_; clear hK K
        refine WS.want rfl (fun K hK => ?_); go_simp; (try (simp only [q1, q2, q3]; (try go_simp))); refine hK _ ?_; clear hK K
        refine WS.want rfl (fun K hK => ?_); go_simp; (try (simp only [q1, q2, q3]; (try go_simp))); refine hK _ ?_; clear hK K
        refine WS.step rfl (fun K hK => ?_); go_simp; (try (simp only [q1, q2, q3]; (try go_simp))); refine hK _ ?_; clear hK K
        refine WS.step rfl (fun K hK => ?_); go_simp; (try (simp only [q1, q2, q3]; (try go_simp))); refine hK _ ?_; clear hK K
        refine WS.want rfl (fun K hK => ?_); go_simp; (try (simp only [q1, q2, q3]; (try go_simp))); refine hK _ ?_; clear hK K
        refine WS.want rfl (fun K hK => ?_); go_simp; (try (simp only [q1, q2, q3]; (try go_simp))); refine hK _ ?_; clear hK K
        refine WS.want rfl (fun K hK => ?_); go_simp; (try (simp only [q1, q2, q3]; (try go_simp))); refine hK _ ?_; clear hK K
        refine WS.skip rfl ?_
        try simp only [Act.put, pq]
        refine WS.skip rfl ?_
        try simp only [Act.put, pq]
        refine WS.skip rfl ?_
        try simp only [Act.put, pq]
        refine WS.skip rfl ?_
        try simp only [Act.put, pq]
        refine WS.skip rfl ?_
        try simp only [Act.put, pq]
        refine WS.skip rfl ?_
        try simp only [Act.put, pq]
        refine WS.skip rfl ?_
        try simp only [Act.put, pq]
        refine WS.skip rfl ?_
        try simp only [Act.put, pq]
        refine WS.skip rfl ?_
        try simp only [Act.put, pq]
        refine WS.skip rfl ?_
        try simp only [Act.put, pq]
        refine WS.want rfl (fun K hK => ?_); go_simp; (try (simp only [q1, q2, q3]; (try go_simp))); refine hK _ ?_; clear hK K
        refine WS.nil ?_
        clear g1
        go_wp2
        go_roundw
        case rel => exact ⟨1, by omega, by go_num, R.out, hK.out⟩
        case measure => simp [intOf]; omega
      | succ k =>
        have g2 := (hK.cell (p := ⟨b, off + k, none⟩) (H.out.lt (by omega))).trans (H.out.at k (by omega))
        have c0 := Ch.low ho (by omega)
        obtain ⟨c1, c2, c3⟩ := c
        replace c1 : ss.getD k 0 < ss.getD (k + 1) 0 := c1
        replace hK := Lib.hid hK
        clear ho
        generalize ss.getD (k + 1) 0 = x at *
        generalize ss.getD k 0 = y at *
        have e1 : ¬ x < 0 := by omega
        have e2 : ¬ (m : Int) ≤ x := by omega
        have e3 : ¬ 65534 < x := by omega
        have q1 : decide (x < 0) = false := decide_eq_false e1
        have q2 : decide ((m : Int) ≤ x) = false := decide_eq_false e2
        have q3 : decide (65534 < x) = false := decide_eq_false e3
        have e4 : ¬ x ≤ y := by omega
        have e5 : (0 : Int) < (k : Int) + 1 := by omega
        have q4 : decide (x ≤ y) = false := decide_eq_false e4
        have q5 : decide ((0 : Int) < (k : Int) + 1) = true := decide_eq_true e5
        have q6 : (0 ≤ (k : Int) + 1) = True := eq_true (by omega)
        have d3 : (k : Int) < n := by omega
        have q7 : IntKind.i64.wrap (k : Int) = k := by rw [IntKind.wrap_i64]; omega
        clear c0 c1 c2 c3
        go_wp2_with (fail)
        refine WS.start 35 (by kernel_rfl) (by kernel_rfl) ?_
        intro w2 hw2
        replace g1 := (show wr.drew.cell? _ = some _ from g1)
        rw [← hw2] at g1
        replace g2 := (show wr.drew.cell? _ = some _ from g2)
        rw [← hw2] at g2
        replace hK := Lib.hid (show Kept w w2 by rw [hw2]; exact hK.out.drew)
        clear hw2
        simp only [List.take_succ_cons, List.take_zero, List.drop_succ_cons, List.drop_zero]
        refine WS.step rfl (fun K hK => ?_); go_simp; (try (simp only [q1, q2, q3, q4, q5, q6, q7, if_true]; (try go_simp))); refine hK _ ?_; clear hK K
        refine WS.step rfl (fun K hK => ?_); go_simp; (try (simp only [q1, q2, q3, q4, q5, q6, q7, if_true]; (try go_simp))); refine hK _ ?_; clear hK K
        refine WS.step rfl (fun K hK => ?_); go_simp; (try (simp only [q1, q2, q3, q4, q5, q6, q7, if_true]; (try go_simp))); refine hK _ ?_; clear hK K
        refine WS.step rfl (fun K hK => ?_); go_simp; (try (simp only [q1, q2, q3, q4, q5, q6, q7, if_true]; (try go_simp))); refine hK _ ?_; clear hK K
        refine WS.step rfl (fun K hK => ?_); go_simp; (try (simp only [q1, q2, q3, q4, q5, q6, q7, if_true]; (try go_simp))); refine hK _ ?_; clear hK K
        refine WS.step rfl (fun K hK => ?_); go_simp; (try (simp only [q1, q2, q3, q4, q5, q6, q7, if_true]; (try go_simp))); refine hK _ ?_; clear hK K
        refine WS.want rfl (fun K hK => ?_); go_simp; (try (simp only [q1, q2, q3, q4, q5, q6, q7, if_true]; (try go_simp))); refine hK _ ?_; clear hK K
        refine WS.want rfl (fun K hK => ?_); go_simp; (try (simp only [q1, q2, q3, q4, q5, q6, q7, if_true]; (try go_simp))); refine hK _ ?_; clear hK K
        refine WS.want rfl (fun K hK => ?_); go_simp; (try (simp only [q1, q2, q3, q4, q5, q6, q7, if_true]; (try go_simp))); refine hK _ ?_; clear hK K
        refine WS.want rfl (fun K hK => ?_); go_simp; (try (simp only [q1, q2, q3, q4, q5, q6, q7, if_true]; (try go_simp))); refine hK _ ?_; clear hK K
        refine WS.want rfl (fun K hK => ?_); go_simp; (try (simp only [q1, q2, q3, q4, q5, q6, q7, if_true]; (try go_simp))); refine hK _ ?_; clear hK K
        refine WS.want rfl (fun K hK => ?_); go_simp; (try (simp only [q1, q2, q3, q4, q5, q6, q7, if_true]; (try go_simp))); refine hK _ ?_; clear hK K
        refine WS.step rfl (fun K hK => ?_); go_simp; (try (simp only [q1, q2, q3, q4, q5, q6, q7, if_true]; (try go_simp))); refine hK _ ?_; clear hK K
        refine WS.step rfl (fun K hK => ?_); go_simp; (try (simp only [q1, q2, q3, q4, q5, q6, q7, if_true]; (try go_simp))); refine hK _ ?_; clear hK K
        refine WS.want rfl (fun K hK => ?_); go_simp; (try (simp only [q1, q2, q3, q4, q5, q6, q7, if_true]; (try go_simp))); refine hK _ ?_; clear hK K
        refine WS.want rfl (fun K hK => ?_); go_simp; (try (simp only [q1, q2, q3, q4, q5, q6, q7, if_true]; (try go_simp))); refine hK _ ?_; clear hK K
        refine WS.want rfl (fun K hK => ?_); go_simp; (try (simp only [q1, q2, q3, q4, q5, q6, q7, if_true]; (try go_simp))); refine hK _ ?_; clear hK K
        refine WS.want rfl (fun K hK => ?_); go_simp; (try (simp only [q1, q2, q3, q4, q5, q6, q7, if_true]; (try go_simp))); refine hK _ ?_; clear hK K
        refine WS.want rfl (fun K hK => ?_); go_simp; (try (simp only [q1, q2, q3, q4, q5, q6, q7, if_true]; (try go_simp))); refine hK _ ?_; clear hK K
        refine WS.step rfl (fun K hK => ?_); go_simp; (try (simp only [q1, q2, q3, q4, q5, q6, q7, if_true]; (try go_simp))); refine hK _ ?_; clear hK K
        refine WS.step rfl (fun K hK => ?_); go_simp; (try (simp only [q1, q2, q3, q4, q5, q6, q7, if_true]; (try go_simp))); refine hK _ ?_; clear hK K
        refine WS.want rfl (fun K hK => ?_); go_simp; (try (simp only [q1, q2, q3, q4, q5, q6, q7, if_true]; (try go_simp))); refine hK _ ?_; clear hK K
        refine WS.want rfl (fun K hK => ?_); go_simp; (try (simp only [q1, q2, q3, q4, q5, q6, q7, if_true]; (try go_simp))); refine hK _ ?_; clear hK K
        refine WS.want rfl (fun K hK => ?_); go_simp; (try (simp only [q1, q2, q3, q4, q5, q6, q7, if_true]; (try go_simp))); refine hK _ ?_; clear hK K
        refine WS.want rfl (fun K hK => ?_); go_simp; (try (simp only [q1, q2, q3, q4, q5, q6, q7, if_true]; (try go_simp))); refine hK _ ?_; clear hK K
        refine WS.want rfl (fun K hK => ?_); go_simp; (try (simp only [q1, q2, q3, q4, q5, q6, q7, if_true]; (try go_simp))); refine hK _ ?_; clear hK K
        refine WS.want rfl (fun K hK => ?_); go_simp; (try (simp only [q1, q2, q3, q4, q5, q6, q7, if_true]; (try go_simp))); refine hK _ ?_; clear hK K
        refine WS.want rfl (fun K hK => ?_); go_simp; (try (simp only [q1, q2, q3, q4, q5, q6, q7, if_true]; (try go_simp))); refine hK _ ?_; clear hK K
        refine WS.want rfl (fun K hK => ?_); go_simp; (try (simp only [q1, q2, q3, q4, q5, q6, q7, if_true]; (try go_simp))); refine hK _ ?_; clear hK K
        refine WS.want rfl (fun K hK => ?_); go_simp; (try (simp only [q1, q2, q3, q4, q5, q6, q7, if_true]; (try go_simp))); refine hK _ ?_; clear hK K
        refine WS.want rfl (fun K hK => ?_); go_simp; (try (simp only [q1, q2, q3, q4, q5, q6, q7, if_true]; (try go_simp))); refine hK _ ?_; clear hK K
        refine WS.want rfl (fun K hK => ?_); go_simp; (try (simp only [q1, q2, q3, q4, q5, q6, q7, if_true]; (try go_simp))); refine hK _ ?_; clear hK K
        refine WS.want rfl (fun K hK => ?_); go_simp; (try (simp only [q1, q2, q3, q4, q5, q6, q7, if_true]; (try go_simp))); refine hK _ ?_; clear hK K
        refine WS.want rfl (fun K hK => ?_); go_simp; (try (simp only [q1, q2, q3, q4, q5, q6, q7, if_true]; (try go_simp))); refine hK _ ?_; clear hK K
        refine WS.want rfl (fun K hK => ?_); go_simp; (try (simp only [q1, q2, q3, q4, q5, q6, q7, if_true]; (try go_simp))); refine hK _ ?_; clear hK K
        refine WS.nil ?_
        clear g1 g2 q7
        go_wp2
        go_roundw
        case rel => exact ⟨k + 1 + 1, by omega, by go_num, R.out, hK.out⟩
        case measure => simp [intOf]; omega
    · have R := Lib.hid (show ¬ Ch.Rises m ss from fun r => c (r k (by omega)))
      unfold Ch.OkAt at c
      replace hK := Lib.hid hK
      by_cases e1 : ss.getD k 0 < 0
      · clear c ho
        generalize ss.getD k 0 = x at *
        have q1 : decide (x < 0) = true := decide_eq_true e1
        go_wp2_with (fail)
        refine WS.start 35 (by kernel_rfl) (by kernel_rfl) ?_
        intro w2 hw2
        replace g1 := (show wr.drew.cell? _ = some _ from g1)
        rw [← hw2] at g1
        replace hK := Lib.hid (show Kept w w2 by rw [hw2]; exact hK.out.drew)
        clear hw2
        simp only [List.take_succ_cons, List.take_zero, List.drop_succ_cons, List.drop_zero]
        refine WS.step rfl (fun K hK => ?_); go_simp; (try (simp only [q1]; (try go_simp))); refine hK _ ?_; clear hK K
        refine WS.step rfl (fun K hK => ?_); go_simp; (try (simp only [q1]; (try go_simp))); refine hK _ ?_; clear hK K
        refine WS.step rfl (fun K hK => ?_); go_simp; (try (simp only [q1]; (try go_simp))); refine hK _ ?_; clear hK K
        refine WS.step rfl (fun K hK => ?_); go_simp; (try (simp only [q1]; (try go_simp))); refine hK _ ?_; clear hK K
        refine WS.step rfl (fun K hK => ?_); go_simp; (try (simp only [q1]; (try go_simp))); refine hK _ ?_; clear hK K
        refine WS.step rfl (fun K hK => ?_); go_simp; (try (simp only [q1]; (try go_simp))); refine hK _ ?_; clear hK K
        refine WS.skip rfl ?_
        try simp only [Act.put, pq]
        refine WS.skip rfl ?_
        try simp only [Act.put, pq]
        refine WS.skip rfl ?_
        try simp only [Act.put, pq]
        refine WS.skip rfl ?_
        try simp only [Act.put, pq]
        refine WS.skip rfl ?_
        try simp only [Act.put, pq]
        refine WS.skip rfl ?_
        try simp only [Act.put, pq]
        refine WS.step rfl (fun K hK => ?_); go_simp; (try (simp only [q1]; (try go_simp))); refine hK _ ?_; clear hK K
        refine WS.step rfl (fun K hK => ?_); go_simp; (try (simp only [q1]; (try go_simp))); refine hK _ ?_; clear hK K
        refine WS.skip rfl ?_
        try simp only [Act.put, pq]
        refine WS.skip rfl ?_
        try simp only [Act.put, pq]
        refine WS.skip rfl ?_
        try simp only [Act.put, pq]
        refine WS.skip rfl ?_
        try simp only [Act.put, pq]
        refine WS.skip rfl ?_
        try simp only [Act.put, pq]
        refine WS.step rfl (fun K hK => ?_); go_simp; (try (simp only [q1]; (try go_simp))); refine hK _ ?_; clear hK K
        refine WS.step rfl (fun K hK => ?_); go_simp; (try (simp only [q1]; (try go_simp))); refine hK _ ?_; clear hK K
        refine WS.skip rfl ?_
        try simp only [Act.put, pq]
        refine WS.skip rfl ?_
        try simp only [Act.put, pq]
        refine WS.skip rfl ?_
        try simp only [Act.put, pq]
        refine WS.skip rfl ?_
        try simp only [Act.put, pq]
        refine WS.skip rfl ?_
        try simp only [Act.put, pq]
        refine WS.skip rfl ?_
        try simp only [Act.put, pq]
        refine WS.skip rfl ?_
        try simp only [Act.put, pq]
        refine WS.skip rfl ?_
        try simp only [Act.put, pq]
        refine WS.skip rfl ?_
        try simp only [Act.put, pq]
        refine WS.skip rfl ?_
        try simp only [Act.put, pq]
        refine WS.skip rfl ?_
        try simp only [Act.put, pq]
        refine WS.skip rfl ?_
        try simp only [Act.put, pq]
        refine WS.skip rfl ?_
        try simp only [Act.put, pq]
        refine WS.skip rfl ?_
        try simp only [Act.put, pq]
        refine WS.nil ?_
        clear g1
        go_wp2
        go_ret
        exact ⟨retB (decide_eq_false R.out).symm, hK.out.below⟩
      · by_cases e2 : (m : Int) ≤ ss.getD k 0
        · clear c ho
          generalize ss.getD k 0 = x at *
          have q1 : decide (x < 0) = false := decide_eq_false e1
          have q2 : decide ((m : Int) ≤ x) = true := decide_eq_true e2
          go_wp2_with (fail)
          refine WS.start 35 (by kernel_rfl) (by kernel_rfl) ?_
          intro w2 hw2
          replace g1 := (show wr.drew.cell? _ = some _ from g1)
          rw [← hw2] at g1
          replace hK := Lib.hid (show Kept w w2 by rw [hw2]; exact hK.out.drew)
          clear hw2
          simp only [List.take_succ_cons, List.take_zero, List.drop_succ_cons, List.drop_zero]
          refine WS.step rfl (fun K hK => ?_); go_simp; (try (simp only [q1, q2]; (try go_simp))); refine hK _ ?_; clear hK K
          refine WS.step rfl (fun K hK => ?_); go_simp; (try (simp only [q1, q2]; (try go_simp))); refine hK _ ?_; clear hK K
          refine WS.step rfl (fun K hK => ?_); go_simp; (try (simp only [q1, q2]; (try go_simp))); refine hK _ ?_; clear hK K
          refine WS.step rfl (fun K hK => ?_); go_simp; (try (simp only [q1, q2]; (try go_simp))); refine hK _ ?_; clear hK K
          refine WS.step rfl (fun K hK => ?_); go_simp; (try (simp only [q1, q2]; (try go_simp))); refine hK _ ?_; clear hK K
          refine WS.step rfl (fun K hK => ?_); go_simp; (try (simp only [q1, q2]; (try go_simp))); refine hK _ ?_; clear hK K
          refine WS.want rfl (fun K hK => ?_); go_simp; (try (simp only [q1, q2]; (try go_simp))); refine hK _ ?_; clear hK K
          refine WS.want rfl (fun K hK => ?_); go_simp; (try (simp only [q1, q2]; (try go_simp))); refine hK _ ?_; clear hK K
          refine WS.want rfl (fun K hK => ?_); go_simp; (try (simp only [q1, q2]; (try go_simp))); refine hK _ ?_; clear hK K
          refine WS.want rfl (fun K hK => ?_); go_simp; (try (simp only [q1, q2]; (try go_simp))); refine hK _ ?_; clear hK K
          refine WS.want rfl (fun K hK => ?_); go_simp; (try (simp only [q1, q2]; (try go_simp))); refine hK _ ?_; clear hK K
          refine WS.want rfl (fun K hK => ?_); go_simp; (try (simp only [q1, q2]; (try go_simp))); refine hK _ ?_; clear hK K
          refine WS.step rfl (fun K hK => ?_); go_simp; (try (simp only [q1, q2]; (try go_simp))); refine hK _ ?_; clear hK K
          refine WS.step rfl (fun K hK => ?_); go_simp; (try (simp only [q1, q2]; (try go_simp))); refine hK _ ?_; clear hK K
          refine WS.skip rfl ?_
          try simp only [Act.put, pq]
          refine WS.skip rfl ?_
          try simp only [Act.put, pq]
          refine WS.skip rfl ?_
          try simp only [Act.put, pq]
          refine WS.skip rfl ?_
          try simp only [Act.put, pq]
          refine WS.skip rfl ?_
          try simp only [Act.put, pq]
          refine WS.step rfl (fun K hK => ?_); go_simp; (try (simp only [q1, q2]; (try go_simp))); refine hK _ ?_; clear hK K
          refine WS.step rfl (fun K hK => ?_); go_simp; (try (simp only [q1, q2]; (try go_simp))); refine hK _ ?_; clear hK K
          refine WS.skip rfl ?_
          try simp only [Act.put, pq]
          refine WS.skip rfl ?_
          try simp only [Act.put, pq]
          refine WS.skip rfl ?_
          try simp only [Act.put, pq]
          refine WS.skip rfl ?_
          try simp only [Act.put, pq]
          refine WS.skip rfl ?_
          try simp only [Act.put, pq]
          refine WS.skip rfl ?_
          try simp only [Act.put, pq]
          refine WS.skip rfl ?_
          try simp only [Act.put, pq]
          refine WS.skip rfl ?_
          try simp only [Act.put, pq]
          refine WS.skip rfl ?_
          try simp only [Act.put, pq]
          refine WS.skip rfl ?_
          try simp only [Act.put, pq]
          refine WS.skip rfl ?_
          try simp only [Act.put, pq]
          refine WS.skip rfl ?_
          try simp only [Act.put, pq]
          refine WS.skip rfl ?_
          try simp only [Act.put, pq]
          refine WS.skip rfl ?_
          try simp only [Act.put, pq]
          refine WS.nil ?_
          clear g1
          go_wp2
          go_ret
          exact ⟨retB (decide_eq_false R.out).symm, hK.out.below⟩
        · by_cases e3 : 65534 < ss.getD k 0
          · clear c ho
            generalize ss.getD k 0 = x at *
            have q1 : decide (x < 0) = false := decide_eq_false e1
            have q2 : decide ((m : Int) ≤ x) = false := decide_eq_false e2
            have q3 : decide (65534 < x) = true := decide_eq_true e3
            go_wp2_with (fail)
            refine WS.start 35 (by kernel_rfl) (by kernel_rfl) ?_
            intro w2 hw2
            replace g1 := (show wr.drew.cell? _ = some _ from g1)
            rw [← hw2] at g1
            replace hK := Lib.hid (show Kept w w2 by rw [hw2]; exact hK.out.drew)
            clear hw2
            simp only [List.take_succ_cons, List.take_zero, List.drop_succ_cons, List.drop_zero]
            refine WS.step rfl (fun K hK => ?_); go_simp; (try (simp only [q1, q2, q3]; (try go_simp))); refine hK _ ?_; clear hK K
            refine WS.step rfl (fun K hK => ?_); go_simp; (try (simp only [q1, q2, q3]; (try go_simp))); refine hK _ ?_; clear hK K
            refine WS.step rfl (fun K hK => ?_); go_simp; (try (simp only [q1, q2, q3]; (try go_simp))); refine hK _ ?_; clear hK K
            refine WS.step rfl (fun K hK => ?_); go_simp; (try (simp only [q1, q2, q3]; (try go_simp))); refine hK _ ?_; clear hK K
            refine WS.step rfl (fun K hK => ?_); go_simp; (try (simp only [q1, q2, q3]; (try go_simp))); refine hK _ ?_; clear hK K
            refine WS.step rfl (fun K hK => ?_); go_simp; (try (simp only [q1, q2, q3]; (try go_simp))); refine hK _ ?_; clear hK K
            refine WS.want rfl (fun K hK => ?_); go_simp; (try (simp only [q1, q2, q3]; (try go_simp))); refine hK _ ?_; clear hK K
            refine WS.want rfl (fun K hK => ?_); go_simp; (try (simp only [q1, q2, q3]; (try go_simp))); refine hK _ ?_; clear hK K
            refine WS.want rfl (fun K hK => ?_); go_simp; (try (simp only [q1, q2, q3]; (try go_simp))); refine hK _ ?_; clear hK K
            refine WS.want rfl (fun K hK => ?_); go_simp; (try (simp only [q1, q2, q3]; (try go_simp))); refine hK _ ?_; clear hK K
            refine WS.want rfl (fun K hK => ?_); go_simp; (try (simp only [q1, q2, q3]; (try go_simp))); refine hK _ ?_; clear hK K
            refine WS.want rfl (fun K hK => ?_); go_simp; (try (simp only [q1, q2, q3]; (try go_simp))); refine hK _ ?_; clear hK K
            refine WS.step rfl (fun K hK => ?_); go_simp; (try (simp only [q1, q2, q3]; (try go_simp))); refine hK _ ?_; clear hK K
            refine WS.step rfl (fun K hK => ?_); go_simp; (try (simp only [q1, q2, q3]; (try go_simp))); refine hK _ ?_; clear hK K
            refine WS.want rfl (fun K hK => ?_); go_simp; (try (simp only [q1, q2, q3]; (try go_simp))); refine hK _ ?_; clear hK K
            refine WS.want rfl (fun K hK => ?_); go_simp; (try (simp only [q1, q2, q3]; (try go_simp))); refine hK _ ?_; clear hK K
            refine WS.want rfl (fun K hK => ?_); go_simp; (try (simp only [q1, q2, q3]; (try go_simp))); refine hK _ ?_; clear hK K
            refine WS.want rfl (fun K hK => ?_); go_simp; (try (simp only [q1, q2, q3]; (try go_simp))); refine hK _ ?_; clear hK K
            refine WS.want rfl (fun K hK => ?_); go_simp; (try (simp only [q1, q2, q3]; (try go_simp))); refine hK _ ?_; clear hK K
            refine WS.step rfl (fun K hK => ?_); go_simp; (try (simp only [q1, q2, q3]; (try go_simp))); refine hK _ ?_; clear hK K
            refine WS.step rfl (fun K hK => ?_); go_simp; (try (simp only [q1, q2, q3]; (try go_simp))); refine hK _ ?_; clear hK K
            refine WS.skip rfl ?_
            try simp only [Act.put, pq]
            refine WS.skip rfl ?_
            try simp only [Act.put, pq]
            refine WS.skip rfl ?_
            try simp only [Act.put, pq]
            refine WS.skip rfl ?_
            try simp only [Act.put, pq]
            refine WS.skip rfl ?_
            try simp only [Act.put, pq]
            refine WS.skip rfl ?_
            try simp only [Act.put, pq]
            refine WS.skip rfl ?_
            try simp only [Act.put, pq]
            refine WS.skip rfl ?_
            try simp only [Act.put, pq]
            refine WS.skip rfl ?_
            try simp only [Act.put, pq]
            refine WS.skip rfl ?_
            try simp only [Act.put, pq]
            refine WS.skip rfl ?_
            try simp only [Act.put, pq]
            refine WS.skip rfl ?_
            try simp only [Act.put, pq]
            refine WS.skip rfl ?_
            try simp only [Act.put, pq]
            refine WS.skip rfl ?_
            try simp only [Act.put, pq]
            refine WS.nil ?_
            clear g1
            go_wp2
            go_ret
            exact ⟨retB (decide_eq_false R.out).symm, hK.out.below⟩
          · cases k with
            | zero => exact absurd ⟨by show -1 < _; omega, by omega, by omega⟩ c
            | succ k =>
              have g2 := (hK.out.cell (p := ⟨b, off + k, none⟩) (H.out.lt (by omega))).trans (H.out.at k (by omega))
              have e4 : ss.getD (k + 1) 0 ≤ ss.getD k 0 := by
               rcases Int.lt_or_le (ss.getD k 0) (ss.getD (k + 1) 0) with q | q
               · exact absurd ⟨q, by omega, by omega⟩ c
               · exact q
              clear c ho
              generalize ss.getD (k + 1) 0 = x at *
              generalize ss.getD k 0 = y at *
              have e5 : (0 : Int) < (k : Int) + 1 := by omega
              have q1 : decide (x < 0) = false := decide_eq_false e1
              have q2 : decide ((m : Int) ≤ x) = false := decide_eq_false e2
              have q3 : decide (65534 < x) = false := decide_eq_false e3
              have q4 : decide (x ≤ y) = true := decide_eq_true e4
              have q5 : decide ((0 : Int) < (k : Int) + 1) = true := decide_eq_true e5
              have q6 : (0 ≤ (k : Int) + 1) = True := eq_true (by omega)
              have q7 : IntKind.i64.wrap (k : Int) = k := by rw [IntKind.wrap_i64]; omega
              have d3 : (k : Int) < n := by omega
              go_wp2_with (fail)
              refine WS.start 35 (by kernel_rfl) (by kernel_rfl) ?_
              intro w2 hw2
              replace g1 := (show wr.drew.cell? _ = some _ from g1)
              rw [← hw2] at g1
              replace g2 := (show wr.drew.cell? _ = some _ from g2)
              rw [← hw2] at g2
              replace hK := Lib.hid (show Kept w w2 by rw [hw2]; exact hK.out.drew)
              clear hw2
              simp only [List.take_succ_cons, List.take_zero, List.drop_succ_cons, List.drop_zero]
              refine WS.step rfl (fun K hK => ?_); go_simp; (try (simp only [q1, q2, q3, q4, q5, q6, q7, if_true]; (try go_simp))); refine hK _ ?_; clear hK K
              refine WS.step rfl (fun K hK => ?_); go_simp; (try (simp only [q1, q2, q3, q4, q5, q6, q7, if_true]; (try go_simp))); refine hK _ ?_; clear hK K
              refine WS.step rfl (fun K hK => ?_); go_simp; (try (simp only [q1, q2, q3, q4, q5, q6, q7, if_true]; (try go_simp))); refine hK _ ?_; clear hK K
              refine WS.step rfl (fun K hK => ?_); go_simp; (try (simp only [q1, q2, q3, q4, q5, q6, q7, if_true]; (try go_simp))); refine hK _ ?_; clear hK K
              refine WS.step rfl (fun K hK => ?_); go_simp; (try (simp only [q1, q2, q3, q4, q5, q6, q7, if_true]; (try go_simp))); refine hK _ ?_; clear hK K
              refine WS.step rfl (fun K hK => ?_); go_simp; (try (simp only [q1, q2, q3, q4, q5, q6, q7, if_true]; (try go_simp))); refine hK _ ?_; clear hK K
              refine WS.want rfl (fun K hK => ?_); go_simp; (try (simp only [q1, q2, q3, q4, q5, q6, q7, if_true]; (try go_simp))); refine hK _ ?_; clear hK K
              refine WS.want rfl (fun K hK => ?_); go_simp; (try (simp only [q1, q2, q3, q4, q5, q6, q7, if_true]; (try go_simp))); refine hK _ ?_; clear hK K
              refine WS.want rfl (fun K hK => ?_); go_simp; (try (simp only [q1, q2, q3, q4, q5, q6, q7, if_true]; (try go_simp))); refine hK _ ?_; clear hK K
              refine WS.want rfl (fun K hK => ?_); go_simp; (try (simp only [q1, q2, q3, q4, q5, q6, q7, if_true]; (try go_simp))); refine hK _ ?_; clear hK K
              refine WS.want rfl (fun K hK => ?_); go_simp; (try (simp only [q1, q2, q3, q4, q5, q6, q7, if_true]; (try go_simp))); refine hK _ ?_; clear hK K
              refine WS.want rfl (fun K hK => ?_); go_simp; (try (simp only [q1, q2, q3, q4, q5, q6, q7, if_true]; (try go_simp))); refine hK _ ?_; clear hK K
              refine WS.step rfl (fun K hK => ?_); go_simp; (try (simp only [q1, q2, q3, q4, q5, q6, q7, if_true]; (try go_simp))); refine hK _ ?_; clear hK K
              refine WS.step rfl (fun K hK => ?_); go_simp; (try (simp only [q1, q2, q3, q4, q5, q6, q7, if_true]; (try go_simp))); refine hK _ ?_; clear hK K
              refine WS.want rfl (fun K hK => ?_); go_simp; (try (simp only [q1, q2, q3, q4, q5, q6, q7, if_true]; (try go_simp))); refine hK _ ?_; clear hK K
              refine WS.want rfl (fun K hK => ?_); go_simp; (try (simp only [q1, q2, q3, q4, q5, q6, q7, if_true]; (try go_simp))); refine hK _ ?_; clear hK K
              refine WS.want rfl (fun K hK => ?_); go_simp; (try (simp only [q1, q2, q3, q4, q5, q6, q7, if_true]; (try go_simp))); refine hK _ ?_; clear hK K
              refine WS.want rfl (fun K hK => ?_); go_simp; (try (simp only [q1, q2, q3, q4, q5, q6, q7, if_true]; (try go_simp))); refine hK _ ?_; clear hK K
              refine WS.want rfl (fun K hK => ?_); go_simp; (try (simp only [q1, q2, q3, q4, q5, q6, q7, if_true]; (try go_simp))); refine hK _ ?_; clear hK K
              refine WS.step rfl (fun K hK => ?_); go_simp; (try (simp only [q1, q2, q3, q4, q5, q6, q7, if_true]; (try go_simp))); refine hK _ ?_; clear hK K
              refine WS.step rfl (fun K hK => ?_); go_simp; (try (simp only [q1, q2, q3, q4, q5, q6, q7, if_true]; (try go_simp))); refine hK _ ?_; clear hK K
              refine WS.want rfl (fun K hK => ?_); go_simp; (try (simp only [q1, q2, q3, q4, q5, q6, q7, if_true]; (try go_simp))); refine hK _ ?_; clear hK K
              refine WS.want rfl (fun K hK => ?_); go_simp; (try (simp only [q1, q2, q3, q4, q5, q6, q7, if_true]; (try go_simp))); refine hK _ ?_; clear hK K
              refine WS.want rfl (fun K hK => ?_); go_simp; (try (simp only [q1, q2, q3, q4, q5, q6, q7, if_true]; (try go_simp))); refine hK _ ?_; clear hK K
              refine WS.want rfl (fun K hK => ?_); go_simp; (try (simp only [q1, q2, q3, q4, q5, q6, q7, if_true]; (try go_simp))); refine hK _ ?_; clear hK K
              refine WS.want rfl (fun K hK => ?_); go_simp; (try (simp only [q1, q2, q3, q4, q5, q6, q7, if_true]; (try go_simp))); refine hK _ ?_; clear hK K
              refine WS.want rfl (fun K hK => ?_); go_simp; (try (simp only [q1, q2, q3, q4, q5, q6, q7, if_true]; (try go_simp))); refine hK _ ?_; clear hK K
              refine WS.want rfl (fun K hK => ?_); go_simp; (try (simp only [q1, q2, q3, q4, q5, q6, q7, if_true]; (try go_simp))); refine hK _ ?_; clear hK K
              refine WS.want rfl (fun K hK => ?_); go_simp; (try (simp only [q1, q2, q3, q4, q5, q6, q7, if_true]; (try go_simp))); refine hK _ ?_; clear hK K
              refine WS.want rfl (fun K hK => ?_); go_simp; (try (simp only [q1, q2, q3, q4, q5, q6, q7, if_true]; (try go_simp))); refine hK _ ?_; clear hK K
              refine WS.want rfl (fun K hK => ?_); go_simp; (try (simp only [q1, q2, q3, q4, q5, q6, q7, if_true]; (try go_simp))); refine hK _ ?_; clear hK K
              refine WS.want rfl (fun K hK => ?_); go_simp; (try (simp only [q1, q2, q3, q4, q5, q6, q7, if_true]; (try go_simp))); refine hK _ ?_; clear hK K
              refine WS.want rfl (fun K hK => ?_); go_simp; (try (simp only [q1, q2, q3, q4, q5, q6, q7, if_true]; (try go_simp))); refine hK _ ?_; clear hK K
              refine WS.want rfl (fun K hK => ?_); go_simp; (try (simp only [q1, q2, q3, q4, q5, q6, q7, if_true]; (try go_simp))); refine hK _ ?_; clear hK K
              refine WS.want rfl (fun K hK => ?_); go_simp; (try (simp only [q1, q2, q3, q4, q5, q6, q7, if_true]; (try go_simp))); refine hK _ ?_; clear hK K
              refine WS.nil ?_
              clear g1 g2 q7
              go_wp2
              go_ret
              exact ⟨retB (decide_eq_false R.out).symm, hK.out.below⟩
  · have R := Lib.hid (show Ch.Rises m ss from fun j hj => ho j (by omega))
    have hkn : ¬ (k : Int) < n := by omega
    replace hK := Lib.hid hK
    clear ho
    go_wp2
    go_ret
    exact ⟨retB (decide_eq_true R.out).symm, hK.out.below⟩
theorem Ch.or_join (v h : Int) (v0 : 0 ≤ v) (v1 : v ≤ 65535) (h0 : 0 ≤ h) (h1 : h < 65536) : bits .or .u32 (v * 65536) h = v * 65536 + h := by
 obtain ⟨V, rfl⟩ := Int.eq_ofNat_of_zero_le v0
 obtain ⟨H, rfl⟩ := Int.eq_ofNat_of_zero_le h0
 rw [show ((V : Int) * 65536) = ((V * 65536 : Nat) : Int) by omega, u32_or_nat _ _ (by omega) (by omega)]
 have e : V * 65536 ||| H = V * 65536 + H := by
  have := Nat.shiftLeft_add_eq_or_of_lt (i := 16) (b := H) (by omega) V
  rw [Nat.shiftLeft_eq] at this
  exact this.symm
 rw [e]; omega
theorem Ch.take_step {xs ys : List Int} {k : Nat} {p : Int} (h : xs.take k = ys.take k) (hx : xs[k]? = some p) (hy : ys[k]? = some p) : xs.take (k + 1) = ys.take (k + 1) := by
 rw [List.take_add_one, List.take_add_one, h, hx, hy]
theorem Ch.take_apart {xs ys : List Int} {k : Nat} {p q : Int} (hx : xs[k]? = some p) (hy : ys[k]? = some q) (hpq : p ≠ q) : xs ≠ ys := by
 intro e
 rw [e, hy] at hx
 cases hx
 exact hpq rfl
set_option maxRecDepth 100000 in
theorem Ch.same5_loop {w : World} {b off b' off' n c c' : Nat} {xs ys : List Int} (h : Rg .u32 w (some ⟨b, off, none⟩) n c xs) (h' : Rg .u32 w (some ⟨b', off', none⟩) n c' ys) (hn : 0 < n) :
 Calls Tryz.prog 12 #[.slice (some ⟨b, off, none⟩) n c, .slice (some ⟨b', off', none⟩) n c'] w fun e w' => e = .returned (.bool (decide (xs = ys))) ∧ Kept w w' := by
 have hm := h.max
 have hle := h.le
 unfold maxLen at hm
 have hn1 : (n : Int) ≤ 9223372036854775807 := by omega
 have hb := h.lt hn
 have hb' := h'.lt hn
 have hl := h.len
 have hl' := h'.len
 have H := Lib.hid h
 have H' := Lib.hid h'
 clear h h' hm
 go_enter Tryz.func12, Tryz.ntmps12
 go_wp2
 go_loopw [5] (fun i wr => ∃ k : Nat, k ≤ n ∧ i = .int .i64 k ∧ xs.take k = ys.take k ∧ Kept w wr) (fun i _ => n - (intOf i).toNat)
 case atStart => exact ⟨0, Nat.zero_le _, rfl, rfl, Kept.refl w⟩
 case round =>
  obtain ⟨k, hk, rfl, ht, hK⟩ := hrel
  by_cases c1 : k < n
  · obtain ⟨p, hp⟩ : ∃ p, xs[k]? = some p := ⟨_, List.getElem?_eq_getElem (by omega)⟩
    obtain ⟨q, hq⟩ : ∃ q, ys[k]? = some q := ⟨_, List.getElem?_eq_getElem (by omega)⟩
    have g1 := (hK.cell (p := ⟨b, off + k, none⟩) hb).trans (H.out.cellAt k p hp)
    have g2 := (hK.cell (p := ⟨b', off' + k, none⟩) hb').trans (H'.out.cellAt k q hq)
    have hkn : (k : Int) < n := by omega
    by_cases c2 : p = q
    · subst c2
      have R := Lib.hid (Ch.take_step ht hp hq)
      have c3 : (p != p) = false := by simp
      replace hK := Lib.hid hK
      clear ht hp hq
      go_wp2
      go_quiet (fail)
      go_wp2
      go_roundw
      case rel => exact ⟨k + 1, by omega, by go_num, R.out, hK.out.drewN nq⟩
      case measure => simp [intOf]; omega
    · have R := Lib.hid (Ch.take_apart hp hq c2)
      have c3 : (p != q) = true := by simpa using c2
      have c4 : (p == q) = false := by simpa using c2
      replace hK := Lib.hid hK
      clear ht hp hq
      go_wp2
      go_quiet (fail)
      go_wp2
      go_ret
      exact ⟨retB (decide_eq_false R.out).symm, hK.out.drewN _⟩
  · rw [List.take_of_length_le (by omega), List.take_of_length_le (by omega)] at ht
    have R := Lib.hid ht
    have hkn : ¬ (k : Int) < n := by omega
    replace hK := Lib.hid hK
    clear ht c1
    go_wp2
    go_ret
    exact ⟨retB (decide_eq_true R.out).symm, hK.out⟩
theorem Ch.same5_none {w : World} (A A' : Option Addr) (c c' : Nat) :
 Calls Tryz.prog 12 #[.slice A 0 c, .slice A' 0 c'] w fun e w' => e = .returned (.bool true) ∧ Kept w w' := by
 go_enter Tryz.func12, Tryz.ntmps12
 go_wp2
 go_loopw [5] (fun i wr => i = .int .i64 0 ∧ Kept w wr) (fun _ _ => 0)
 case atStart => exact ⟨rfl, Kept.refl w⟩
 case round =>
  obtain ⟨rfl, hK⟩ := hrel
  replace hK := Lib.hid hK
  go_wp2
  go_ret
  exact ⟨rfl, hK.out⟩
theorem Ch.same5_apart {w : World} (A A' : Option Addr) (n n' c c' : Nat) (hn : ¬ (n : Int) = n') :
 Calls Tryz.prog 12 #[.slice A n c, .slice A' n' c'] w fun e w' => e = .returned (.bool false) ∧ Kept w w' := by
 have h1 : ((n : Int) != n') = true := by simpa using hn
 have h2 : ((n : Int) == n') = false := by simpa using hn
 go_enter Tryz.func12, Tryz.ntmps12
 go_wp2
 go_ret
 exact ⟨rfl, Kept.refl w⟩
theorem Ch.same5_any {w : World} {A A' : Option Addr} {n n' c c' : Nat} {xs ys : List Int} (h : Rg .u32 w A n c xs) (h' : Rg .u32 w A' n' c' ys) :
 Calls Tryz.prog 12 #[.slice A n c, .slice A' n' c'] w fun e w' => e = .returned (.bool (decide (xs = ys))) ∧ Below w.heap.size w w' := by
 by_cases c1 : n = n'
 · subst c1
   rcases Nat.eq_zero_or_pos n with rfl | hn
   · have e1 : xs = [] := List.eq_nil_of_length_eq_zero h.len
     have e2 : ys = [] := List.eq_nil_of_length_eq_zero h'.len
     subst e1; subst e2
     exact (Ch.same5_none A A' c c').mono fun e w' h => ⟨h.1, h.2.below⟩
   · obtain ⟨b, off, rfl⟩ := h.place hn
     obtain ⟨b', off', rfl⟩ := h'.place hn
     exact (Ch.same5_loop h h' hn).mono fun e w' h => ⟨h.1, h.2.below⟩
 · rw [decide_eq_false (fun e : xs = ys => c1 (by rw [← h.len, ← h'.len, e]))]
   exact (Ch.same5_apart A A' n n' c c' (by omega)).mono fun e w' h => ⟨h.1, h.2.below⟩
def Ch.fit (bs : List Int) : Nat → List Int
 | 0 => []
 | k + 1 => Ch.fit bs k ++ (if bits .and .u8 (bs.getD k 0) 1 = 1 then [(k : Int)] else [])
theorem Ch.rises_snoc {m : Nat} {ss : List Int} {x : Int} (h : Ch.Rises m ss) (h1 : Ch.prev ss ss.length < x) (h2 : x < (m : Int)) (h3 : x ≤ 65534) : Ch.Rises m (ss ++ [x]) := fun k hk => by
 rw [List.length_append] at hk
 simp at hk
 unfold Ch.OkAt
 rw [Ch.prev_append ss _ k (by omega)]
 rcases Nat.lt_or_ge k ss.length with c | c
 · rw [Ch.getD_left _ _ _ c]
   exact h k c
 · obtain rfl : k = ss.length := by omega
   rw [Ch.getD_last]
   exact ⟨h1, h2, h3⟩
theorem Ch.prev_snoc (ss : List Int) (x : Int) : Ch.prev (ss ++ [x]) (ss ++ [x]).length = x := by
 rw [List.length_append]
 exact Ch.getD_last ss x
theorem Ch.fit_rises (bs : List Int) (m : Nat) (hm : m ≤ 65535) : ∀ k, k ≤ m → Ch.Rises m (Ch.fit bs k) ∧ Ch.prev (Ch.fit bs k) (Ch.fit bs k).length < (k : Int)
 | 0, _ => ⟨fun k hk => by simp [Ch.fit] at hk, by show (-1 : Int) < 0; omega⟩
 | k + 1, hk => by
   obtain ⟨h1, h2⟩ := Ch.fit_rises bs m hm k (by omega)
   show Ch.Rises m (Ch.fit bs k ++ _) ∧ Ch.prev (Ch.fit bs k ++ _) (Ch.fit bs k ++ _).length < _
   split
   · exact ⟨Ch.rises_snoc h1 h2 (by omega) (by omega), by rw [Ch.prev_snoc]; omega⟩
   · rw [List.append_nil]
     exact ⟨h1, by omega⟩
theorem Ch.fit_len (bs : List Int) : ∀ k, (Ch.fit bs k).length ≤ k
 | 0 => Nat.le_refl _
 | k + 1 => by
   have := Ch.fit_len bs k
   show (Ch.fit bs k ++ _).length ≤ _
   split
   · simp; omega
   · simp; omega
set_option maxRecDepth 100000 in
theorem Ch.fit_any {w : World} {A : Option Addr} {n c : Nat} {bs : List Int} (h : By w A n c bs) (m : Nat) (hm : m ≤ 1000000) :
 Calls Tryz.prog 18 #[.slice A n c, .int .i64 m] w fun e w' => ∃ g cap, e = .returned (.slice (some ⟨g, 0, none⟩) (Ch.fit bs (min m n)).length cap) ∧ Ow 3 .i64 w.heap.size g (Ch.fit bs (min m n)).length cap (Ch.fit bs (min m n)) w' ∧ Below w.heap.size w w' := by
 have hl := h.len
 have hle := h.le
 have hmx := h.max
 unfold maxLen at hmx
 have hn1 : (n : Int) ≤ 9223372036854775807 := by omega
 have hA : n = 0 ∨ ∃ b off, A = some ⟨b, off, none⟩ := (Nat.eq_zero_or_pos n).imp_right h.place
 have H := Lib.hid h
 clear h hmx
 go_enter Tryz.func18, Tryz.ntmps18
 go_wp2_with (fail)
 have hO := Lib.hid (Ow.new 3 .i64 w w.heap.size (Nat.le_refl _))
 have hB := Lib.hid (((Kept.refl w).alloc #[] 3).below)
 generalize w.alloc (.cells #[] 3) = w1 at *
 go_loopw [5, 6] (fun b i wr => ∃ k g cap : Nat, k ≤ min m n ∧ i = .int .i64 k ∧ b = .slice (some ⟨g, 0, none⟩) (Ch.fit bs k).length cap ∧ Ow 3 .i64 w.heap.size g (Ch.fit bs k).length cap (Ch.fit bs k) wr ∧ Below w.heap.size w wr) (fun _ i _ => n - (intOf i).toNat)
 case atStart => exact ⟨0, w.heap.size, 0, Nat.zero_le _, rfl, rfl, hO.out, hB.out⟩
 case round =>
  clear hO hB
  obtain ⟨k, g, cap, hk, rfl, rfl, hO, hB⟩ := hrel
  by_cases c1 : k < m
  · have e1 : (k : Int) < m := by omega
    by_cases c2 : k < n
    · have e2 : (k : Int) < n := by omega
      rcases hA with h0 | ⟨b, off, rfl⟩
      · omega
      have g1 := (hB.cell (p := ⟨b, off + k, none⟩) (H.out.lt (by omega))).trans (H.out.at k c2)
      have hfl := Ch.fit_len bs k
      by_cases c3 : bits .and .u8 (bs.getD k 0) 1 = 1
      · have R : Hid (Ch.fit bs k ++ [(k : Int)] = Ch.fit bs (k + 1)) := Lib.hid (by show _ = Ch.fit bs k ++ _; rw [if_pos c3])
        have R2 : Hid ((Ch.fit bs k).length + 1 = (Ch.fit bs (k + 1)).length) := Lib.hid (by rw [← R.out]; simp)
        have c4 : (bits .and .u8 (bs.getD k 0) 1 == 1) = true := by simpa using c3
        have hg := hO.has.1
        have hs0 : w.heap.size ≤ (wr.alloc (.cells #[.int .i64 (k : Int)] 3)).heap.size := by have := hB.size; simp; omega
        have hY := Lib.hid (Rg.one (Has.new #[.int .i64 (k : Int)] 3 wr))
        have hA1 := ((Kept.refl wr).alloc #[.int .i64 (k : Int)] 3).below
        replace hO := Lib.hid (hO.below hA1)
        replace hB := Lib.hid (hB.trans (hA1.mono hB.size))
        generalize bs.getD k 0 = x at *
        generalize Ch.fit bs k = fk at *
        clear hA1
        go_wp2_with (with_reducible refine append_rg (o := ⟨some 28, _, _, _, _, _⟩) Tryz.underlying30 Ch.info64 (by omega) rfl (.tmp 25) (.tmp 27) rfl w.heap.size g fk.length cap fk rfl hO.out _ 1 1 [(k : Int)] rfl hY.out (by omega) hs0 ?_; intro g3 cap3 w3 hO3 hG3)
        rw [R.out, R2.out] at hO3
        have hB3 := Lib.hid (hB.out.grown hG3 hs0 (fun q e => by cases e; exact hg))
        replace hO3 := Lib.hid hO3
        rw [R2.out]
        clear hG3 hO hB hY hs0 g1 c3 c4
        go_wp2
        go_roundw
        case rel => exact ⟨k + 1, g3, cap3, by omega, by go_num, rfl, hO3.out, hB3.out⟩
        case measure => simp [intOf]; omega
      · have R : Hid (Ch.fit bs k = Ch.fit bs (k + 1)) := Lib.hid (by show _ = Ch.fit bs k ++ _; rw [if_neg c3, List.append_nil])
        have c4 : (bits .and .u8 (bs.getD k 0) 1 == 1) = false := by simpa using c3
        replace hO := Lib.hid hO
        replace hB := Lib.hid hB
        rw [R.out] at hO ⊢
        generalize bs.getD k 0 = x at *
        go_wp2
        go_roundw
        case rel => exact ⟨k + 1, g, cap, by omega, by go_num, rfl, hO.out, hB.out⟩
        case measure => simp [intOf]; omega
    · have e2 : ¬ (k : Int) < n := by omega
      have hq := Lib.hid (show Ch.fit bs (min m n) = Ch.fit bs k by rw [show min m n = k by omega])
      replace hO := Lib.hid hO
      replace hB := Lib.hid hB
      generalize Ch.fit bs k = fk at *
      go_wp2
      go_ret
      rw [hq.out]
      exact ⟨g, cap, rfl, hO.out, hB.out⟩
  · have e1 : ¬ (k : Int) < m := by omega
    have hq := Lib.hid (show Ch.fit bs (min m n) = Ch.fit bs k by rw [show min m n = k by omega])
    replace hO := Lib.hid hO
    replace hB := Lib.hid hB
    generalize Ch.fit bs k = fk at *
    go_wp2
    go_ret
    rw [hq.out]
    exact ⟨g, cap, rfl, hO.out, hB.out⟩
theorem Ch.site_nat {n : Nat} {ss : List Int} (h : Ch.Rises n ss) (k : Nat) (hk : k < ss.length) : ∃ s : Nat, ss.getD k 0 = (s : Int) ∧ s < n ∧ s ≤ 65534 := by
 have h1 := Ch.at_ge h k hk
 exact ⟨(ss.getD k 0).toNat, by omega, by omega, by omega⟩
theorem Ch.none_rise {ss : List Int} (h : Ch.Rises 0 ss) : ss.length = 0 := by
 rcases Nat.eq_zero_or_pos ss.length with c | c
 · exact c
 · have := Ch.at_ge h 0 c; omega
theorem Ch.pack_no {w : World} {A : Option Addr} {n c : Nat} {B : Option Addr} {m d : Nat} {ss : List Int} (hs : In w B m d ss) (hn : n ≤ 1000000) (hR : ¬ Ch.Rises n ss) :
 Calls Tryz.prog 61 #[.slice A n c, .slice B m d] w fun e w' => e = .returned (.tuple #[.slice none 0 0, .int .i64 0, .int .i64 7]) ∧ w = w' := by
 have C := Lib.hid (Ch.sites_any hs n hn)
 rw [decide_eq_false hR] at C
 clear hs hR
 go_enter Tryz.func61, Tryz.ntmps61
 go_wp2_with (fail)
 refine C.out.mono ?_; rintro e w' ⟨rfl, rfl⟩
 go_wp2
 go_ret3
 exact ⟨rfl, rfl⟩
set_option maxRecDepth 100000 in
theorem Ch.pack_big {w : World} {A : Option Addr} {n c : Nat} {ws : List Int} {B : Option Addr} {m d : Nat} {ss : List Int} (h : Wo w A n c ws) (hs : In w B m d ss) (hn : n ≤ 1000000) (hR : Ch.Rises n ss) (hF : ¬ Ch.Fits ws ss) :
 Calls Tryz.prog 61 #[.slice A n c, .slice B m d] w fun e w' => e = .returned (.tuple #[.slice none 0 0, .int .i64 0, .int .i64 8]) ∧ w = w' := by
 have C := Lib.hid (Ch.sites_any hs n hn)
 rw [decide_eq_true hR] at C
 have hlm := hs.len
 have hle := hs.le
 have hmx := hs.max
 unfold maxLen at hmx
 have hm1 : (m : Int) ≤ 9223372036854775807 := by omega
 have hA : n = 0 ∨ ∃ b off, A = some ⟨b, off, none⟩ := (Nat.eq_zero_or_pos n).imp_right h.place
 have hB : m = 0 ∨ ∃ b off, B = some ⟨b, off, none⟩ := (Nat.eq_zero_or_pos m).imp_right hs.place
 have H := Lib.hid h
 have S := Lib.hid hs
 clear h hs hmx
 go_enter Tryz.func61, Tryz.ntmps61
 go_wp2_with (fail)
 refine C.out.mono ?_; rintro e w' ⟨rfl, rfl⟩
 clear C
 go_wp2
 go_loopw [8, 20] (fun _ i wr => ∃ k : Nat, k ≤ m ∧ i = .int .i64 k ∧ (∀ j, j < k → Ch.val ws ss j ≤ 65535) ∧ w = wr) (fun _ i _ => m - (intOf i).toNat)
 case atStart => exact ⟨0, Nat.zero_le _, rfl, fun j hj => by omega, rfl⟩
 case round =>
  obtain ⟨k, hk, rfl, ho, rfl⟩ := hrel
  by_cases d1 : k < m
  · have d2 : (k : Int) < m := by omega
    obtain ⟨s, hs1, hs2, hs3⟩ := Ch.site_nat hR k (by omega)
    rcases hB with h0 | ⟨b', off', rfl⟩
    · omega
    rcases hA with h0 | ⟨b, off, rfl⟩
    · omega
    have g1 := S.out.at k d1
    have g2 := H.out.at s hs2
    have hv : Ch.val ws ss k = ws.getD s 0 := by unfold Ch.val; rw [hs1, Int.toNat_natCast]
    rw [hs1] at g1
    have hsn : (s : Int) < n := by omega
    by_cases c1 : ws.getD s 0 ≤ 65535
    · have R := Lib.hid (show ∀ j, j < k + 1 → Ch.val ws ss j ≤ 65535 from fun j hj => by
       rcases Nat.lt_or_ge j k with q | q
       · exact ho j q
       · rw [show j = k by omega, hv]; exact c1)
      have c2 : ¬ 65535 < ws.getD s 0 := by omega
      clear ho hv hs1 c1 hR hF
      generalize ws.getD s 0 = x at *
      go_wp2
      go_roundw
      case rel => exact ⟨k + 1, by omega, by go_num, R.out, by trivial⟩
      case measure => simp [intOf]; omega
    · have c2 : 65535 < ws.getD s 0 := by omega
      clear ho hv hs1 c1 hR hF
      generalize ws.getD s 0 = x at *
      go_wp2
      go_ret3
      exact ⟨rfl, rfl⟩
  · exact absurd (fun j hj => ho j (by omega)) hF
set_option maxRecDepth 100000 in
set_option maxHeartbeats 1000000 in
theorem Ch.pack_yes {w : World} {A : Option Addr} {n c : Nat} {ws : List Int} {B : Option Addr} {m d : Nat} {ss : List Int} (h : Wo w A n c ws) (hs : In w B m d ss) (hn : n ≤ 1000000) (hR : Ch.Rises n ss) (hF : Ch.Fits ws ss) :
 Calls Tryz.prog 61 #[.slice A n c, .slice B m d] w fun e w' => ∃ A' c', e = .returned (.tuple #[.slice A' n c', .int .i64 (Ch.prev ss m + 1), .int .i64 0]) ∧ On 43 .u32 w.heap.size A' n c' (Ch.pk ws ss m) w' ∧ Below w.heap.size w w' := by
 have C := Lib.hid (Ch.sites_any hs n hn)
 rw [decide_eq_true hR] at C
 have CC := Lib.hid (Ch.clone_any h hn)
 have hlm := hs.len
 have hle := hs.le
 have hmx := hs.max
 unfold maxLen at hmx
 have hm1 : (m : Int) ≤ 9223372036854775807 := by omega
 have hA : n = 0 ∨ ∃ b off, A = some ⟨b, off, none⟩ := (Nat.eq_zero_or_pos n).imp_right h.place
 have hB : m = 0 ∨ ∃ b off, B = some ⟨b, off, none⟩ := (Nat.eq_zero_or_pos m).imp_right hs.place
 have H := Lib.hid h
 have S := Lib.hid hs
 have hRF := Lib.hid (And.intro hR hF)
 clear h hs hmx hR hF
 go_enter Tryz.func61, Tryz.ntmps61
 go_wp2_with (fail)
 refine C.out.mono ?_; rintro e w' ⟨rfl, rfl⟩
 clear C
 go_wp2
 go_loopw [8, 20] (fun _ i wr => ∃ k : Nat, k ≤ m ∧ i = .int .i64 k ∧ w = wr) (fun _ i _ => m - (intOf i).toNat)
 case atStart => exact ⟨0, Nat.zero_le _, rfl, rfl⟩
 case round =>
  obtain ⟨k, hk, rfl, rfl⟩ := hrel
  by_cases d1 : k < m
  · have d2 : (k : Int) < m := by omega
    obtain ⟨s, hs1, hs2, hs3⟩ := Ch.site_nat hRF.out.1 k (by omega)
    rcases hB with h0 | ⟨b', off', rfl⟩
    · omega
    rcases hA with h0 | ⟨b, off, rfl⟩
    · omega
    have g1 := S.out.at k d1
    have g2 := H.out.at s hs2
    have c2 : ¬ 65535 < ws.getD s 0 := by
     have := hRF.out.2 k (by omega)
     unfold Ch.val at this
     rw [hs1, Int.toNat_natCast] at this
     omega
    rw [hs1] at g1
    have hsn : (s : Int) < n := by omega
    clear hs1
    generalize ws.getD s 0 = x at *
    go_wp2
    go_roundw
    case rel => exact ⟨k + 1, by omega, by go_num, by trivial⟩
    case measure => simp [intOf]; omega
  · have d2 : ¬ (k : Int) < m := by omega
    go_wp2_with (fail)
    refine CC.out.mono ?_; rintro e w1 ⟨A', c', rfl, hO, hE⟩
    clear CC
    rcases hO.cases with ⟨rfl, rfl, rfl, rfl⟩ | ⟨g, rfl, hO⟩
    · have h0 := Ch.none_rise hRF.out.1
      obtain rfl : m = 0 := by omega
      replace hE := Lib.hid hE
      clear hO
      go_wp2
      go_loopw [10, 12, 34] (fun a _ i wr => a = .int .i64 0 ∧ i = .int .i64 0 ∧ w1 = wr) (fun _ _ _ _ => 0)
      case atStart => exact ⟨rfl, rfl, rfl⟩
      case round =>
       obtain ⟨rfl, rfl, rfl⟩ := hrel
       go_wp2
       go_ret3
       exact ⟨none, 0, rfl, On.none _ _ _ _, hE.out⟩
    · have hO0 := Lib.hid (show Ow 43 .u32 w.heap.size g n c' ws w1 from hO)
      replace hE := Lib.hid hE
      have hb0 : w.heap.size ≤ g := hO0.out.has.1
      clear hO d1 d2
      go_wp2
      go_loopw [10, 12, 34] (fun a _ i wr => ∃ k : Nat, k ≤ m ∧ i = .int .i64 k ∧ a = .int .i64 (Ch.prev ss k + 1) ∧ Ow 43 .u32 w.heap.size g n c' (Ch.pk ws ss k) wr ∧ Below w.heap.size w wr) (fun _ _ i _ => m - (intOf i).toNat)
      case atStart => exact ⟨0, Nat.zero_le _, rfl, rfl, hO0.out, hE.out⟩
      case round =>
       clear hO0 hE hk
       obtain ⟨k, hk, rfl, rfl, hO, hE⟩ := hrel
       by_cases d1 : k < m
       · have d2 : (k : Int) < m := by omega
         obtain ⟨s, hs1, hs2, hs3⟩ := Ch.site_nat hRF.out.1 k (by omega)
         rcases hB with h0 | ⟨b', off', rfl⟩
         · omega
         rcases hA with h0 | ⟨b, off, rfl⟩
         · omega
         have g1 := (hE.cell (p := ⟨b', off' + k, none⟩) (S.out.lt (by omega))).trans (S.out.at k d1)
         have g2 := (hE.cell (p := ⟨b, off + s, none⟩) (H.out.lt (by omega))).trans (H.out.at s hs2)
         have f1 := hO.free s
         obtain ⟨v0, g3⟩ := hO.cell s hs2
         have c1 : ws.getD s 0 ≤ 65535 := by
          have := hRF.out.2 k (by omega)
          unfold Ch.val at this
          rw [hs1, Int.toNat_natCast] at this
          exact this
         have c0 := (H.out.atR (by decide) s).1
         have p0 := Ch.prev_ge hRF.out.1 k (by omega)
         have p1 := Ch.prev_lt hRF.out.1 k (by omega)
         rw [hs1] at g1
         have hN := Lib.hid (show Ch.prev ss (k + 1) = (s : Int) from hs1)
         have hP := Lib.hid (show Ch.pk ws ss (k + 1) = (Ch.pk ws ss k).set s (ws.getD s 0 * 65536 + (Ch.prev ss k + 1)) by
          show (Ch.pk ws ss k).set (ss.getD k 0).toNat (Ch.val ws ss k * 65536 + (Ch.prev ss k + 1)) = _
          unfold Ch.val
          rw [hs1, Int.toNat_natCast])
         have hJ := Ch.or_join (ws.getD s 0) (Ch.prev ss k + 1) c0 c1 (by omega) (by omega)
         have hO2 := Lib.hid (hO.set s (ws.getD s 0 * 65536 + (Ch.prev ss k + 1)))
         have hE2 := Lib.hid (hE.setCell (p := ⟨g, s, none⟩) hb0 (.int .u32 (ws.getD s 0 * 65536 + (Ch.prev ss k + 1))))
         rw [← hP.out] at hO2
         have hsn : (s : Int) < n := by omega
         clear hs1 hP hO hE
         generalize ws.getD s 0 = x at *
         have y0 : 0 ≤ Ch.prev ss k + 1 ∧ Ch.prev ss k + 1 ≤ 65535 := by omega
         generalize Ch.prev ss k + 1 = y at *
         obtain ⟨y0, y1⟩ := y0
         replace hJ := Lib.hid hJ
         go_wp2
         rw [hJ.out]
         go_roundw
         case rel => exact ⟨k + 1, by omega, by go_num, by rw [hN.out], hO2.out, hE2.out⟩
         case measure => simp [intOf]; omega
       · have d2 : ¬ (k : Int) < m := by omega
         obtain rfl : k = m := by omega
         replace hO := Lib.hid hO
         replace hE := Lib.hid hE
         go_wp2
         go_ret3
         exact ⟨some ⟨g, 0, none⟩, c', rfl, hO.out.on, hE.out⟩
theorem Ch.pE_no {ws ss : List Int} (h : ¬ Ch.Rises ws.length ss) : Ch.pE ws ss = 7 ∧ Ch.pH ws ss = 0 ∧ Ch.pW ws ss = [] := by
 have e : Ch.pE ws ss = 7 := by unfold Ch.pE; rw [if_neg h]
 exact ⟨e, by unfold Ch.pH; rw [e, if_neg (by decide)], by unfold Ch.pW; rw [e, if_neg (by decide)]⟩
theorem Ch.pE_big {ws ss : List Int} (h : Ch.Rises ws.length ss) (h2 : ¬ Ch.Fits ws ss) : Ch.pE ws ss = 8 ∧ Ch.pH ws ss = 0 ∧ Ch.pW ws ss = [] := by
 have e : Ch.pE ws ss = 8 := by unfold Ch.pE; rw [if_pos h, if_neg h2]
 exact ⟨e, by unfold Ch.pH; rw [e, if_neg (by decide)], by unfold Ch.pW; rw [e, if_neg (by decide)]⟩
theorem Ch.pE_yes {ws ss : List Int} (h : Ch.Rises ws.length ss) (h2 : Ch.Fits ws ss) : Ch.pE ws ss = 0 ∧ Ch.pH ws ss = Ch.prev ss ss.length + 1 ∧ Ch.pW ws ss = Ch.pk ws ss ss.length := by
 have e : Ch.pE ws ss = 0 := by unfold Ch.pE; rw [if_pos h, if_pos h2]
 exact ⟨e, by unfold Ch.pH; rw [if_pos e], by unfold Ch.pW; rw [if_pos e]⟩
theorem Ch.pack_any {w : World} {A : Option Addr} {n c : Nat} {ws : List Int} {B : Option Addr} {m d : Nat} {ss : List Int} (h : Wo w A n c ws) (hs : In w B m d ss) (hn : n ≤ 1000000) :
 Calls Tryz.prog 61 #[.slice A n c, .slice B m d] w fun e w' => ∃ A' n' c', e = .returned (.tuple #[.slice A' n' c', .int .i64 (Ch.pH ws ss), .int .i64 (Ch.pE ws ss)]) ∧ On 43 .u32 w.heap.size A' n' c' (Ch.pW ws ss) w' ∧ Below w.heap.size w w' := by
 have hl := h.len
 have hlm := hs.len
 by_cases hR : Ch.Rises ws.length ss
 · by_cases hF : Ch.Fits ws ss
   · obtain ⟨e1, e2, e3⟩ := Ch.pE_yes hR hF
     rw [e1, e2, e3, hlm]
     rw [hl] at hR
     exact (Ch.pack_yes h hs hn hR hF).mono fun e w' ⟨A', c', q1, q2, q3⟩ => ⟨A', n, c', q1, q2, q3⟩
   · obtain ⟨e1, e2, e3⟩ := Ch.pE_big hR hF
     rw [e1, e2, e3]
     rw [hl] at hR
     exact (Ch.pack_big h hs hn hR hF).mono fun e w' ⟨q1, q2⟩ => ⟨none, 0, 0, q1, On.none _ _ _ _, q2 ▸ Below.refl _ _⟩
 · obtain ⟨e1, e2, e3⟩ := Ch.pE_no hR
   rw [e1, e2, e3]
   rw [hl] at hR
   exact (Ch.pack_no hs hn hR).mono fun e w' ⟨q1, q2⟩ => ⟨none, 0, 0, q1, On.none _ _ _ _, q2 ▸ Below.refl _ _⟩
theorem L.isLetter_any (x : Int) (w : World) : Calls Tryz.prog 108 #[.int .u8 x] w fun e w' => e = .returned (.bool (L.letter x)) ∧ w = w' := by
 unfold L.letter
 by_cases c1 : 65 ≤ x <;> by_cases c2 : x ≤ 90 <;> by_cases c3 : 97 ≤ x <;> by_cases c4 : x ≤ 122
 all_goals
  simp only [c1, c2, c3, c4, decide_true, decide_false, Bool.and_true, Bool.and_false, Bool.true_and, Bool.false_and, Bool.or_true, Bool.or_false, Bool.true_or, Bool.false_or]
  go_enter Tryz.func108, Tryz.ntmps108
  go_wp2
  go_ret
  exact ⟨rfl, rfl⟩
theorem L.rletter_any (x : Int) (w : World) : Calls Tryz.prog 87 #[.int .u8 x] w fun e w' => e = .returned (.bool (L.letter x)) ∧ w = w' := by
 unfold L.letter
 by_cases c1 : 65 ≤ x <;> by_cases c2 : x ≤ 90 <;> by_cases c3 : 97 ≤ x <;> by_cases c4 : x ≤ 122
 all_goals
  simp only [c1, c2, c3, c4, decide_true, decide_false, Bool.and_true, Bool.and_false, Bool.true_and, Bool.false_and, Bool.or_true, Bool.or_false, Bool.true_or, Bool.false_or]
  go_enter Tryz.func87, Tryz.ntmps87
  go_wp2
  go_ret
  exact ⟨rfl, rfl⟩
theorem L.isDigit_any (x : Int) (w : World) : Calls Tryz.prog 110 #[.int .u8 x] w fun e w' => e = .returned (.bool (L.digit x)) ∧ w = w' := by
 unfold L.digit
 by_cases c1 : 48 ≤ x <;> by_cases c2 : x ≤ 57
 all_goals
  simp only [c1, c2, decide_true, decide_false, Bool.and_true, Bool.and_false, Bool.true_and, Bool.false_and]
  go_enter Tryz.func110, Tryz.ntmps110
  go_wp2
  go_ret
  exact ⟨rfl, rfl⟩
theorem L.rdigit_any (x : Int) (w : World) : Calls Tryz.prog 89 #[.int .u8 x] w fun e w' => e = .returned (.bool (L.digit x)) ∧ w = w' := by
 unfold L.digit
 by_cases c1 : 48 ≤ x <;> by_cases c2 : x ≤ 57
 all_goals
  simp only [c1, c2, decide_true, decide_false, Bool.and_true, Bool.and_false, Bool.true_and, Bool.false_and]
  go_enter Tryz.func89, Tryz.ntmps89
  go_wp2
  go_ret
  exact ⟨rfl, rfl⟩
theorem L.at_of {s : ByteArray} {k : Nat} {x : Int} (h : (L.bs s)[k]? = some x) : ∃ hk : k < s.size, ((s[k]'hk).toNat : Int) = x := by
 have hk : k < (L.bs s).length := by
  rcases Nat.lt_or_ge k (L.bs s).length with h1 | h1
  · exact h1
  · rw [List.getElem?_eq_none h1] at h; cases h
 have hk2 : k < s.size := by rw [← L.bs_len]; exact hk
 refine ⟨hk2, ?_⟩
 rw [L.bs_at s k hk2]
 rw [List.getElem?_eq_getElem hk] at h
 exact Option.some.inj h
theorem L.reg_no {xs : List Int} (h : xs.length < 2 ∨ 3 < xs.length ∨ xs.getD 0 0 ≠ 82) : L.reg xs = false := by
 unfold L.reg
 rcases h with h | h | h
 · rw [decide_eq_false (by omega)]; rfl
 · rw [decide_eq_false (by omega)]; rfl
 · rw [decide_eq_false h]; simp
theorem L.reg_yes {xs : List Int} (h1 : 2 ≤ xs.length) (h2 : xs.length ≤ 3) (h3 : xs.getD 0 0 = 82) : L.reg xs = (xs.drop 1).all L.digit := by
 unfold L.reg
 rw [decide_eq_true (by omega), decide_eq_true h3]; rfl
theorem all_step {p : Int → Bool} {xs : List Int} {k : Nat} {x : Int} (h : (xs.take k).all p = true) (hx : xs[k]? = some x) (hp : p x = true) : (xs.take (k + 1)).all p = true := by
 rw [List.take_add_one, hx, List.all_append, h]
 simp [hp]
theorem all_not {p : Int → Bool} {xs : List Int} {k : Nat} {x : Int} (hx : xs[k]? = some x) (hp : p x = false) : xs.all p = false := by
 rw [List.all_eq_false]
 exact ⟨x, List.mem_of_getElem? hx, by simp [hp]⟩
set_option maxRecDepth 100000 in
theorem L.isRegister_any (s : ByteArray) (hs : s.size ≤ 1000000) (w : World) : Calls Tryz.prog 109 #[.string s] w fun e w' => e = .returned (.bool (L.reg (L.bs s))) ∧ w = w' := by
 have hl := L.bs_len s
 have hs1 : (s.size : Int) ≤ 1000000 := by omega
 by_cases c1 : s.size < 2
 · rw [L.reg_no (Or.inl (by omega))]
   have c2 : (s.size : Int) - 1 < 1 := by omega
   go_enter Tryz.func109, Tryz.ntmps109
   go_wp2
   go_ret
   exact ⟨rfl, rfl⟩
 by_cases c2 : 3 < s.size
 · rw [L.reg_no (Or.inr (Or.inl (by omega)))]
   have c3 : ¬ (s.size : Int) - 1 < 1 := by omega
   have c4 : (s.size : Int) - 1 > 2 := by omega
   go_enter Tryz.func109, Tryz.ntmps109
   go_wp2
   go_ret
   exact ⟨rfl, rfl⟩
 have c3 : ¬ (s.size : Int) - 1 < 1 := by omega
 have c4 : ¬ (s.size : Int) - 1 > 2 := by omega
 obtain ⟨x, hx⟩ : ∃ x, (L.bs s)[0]? = some x := ⟨_, List.getElem?_eq_getElem (by omega)⟩
 have hg : (L.bs s).getD 0 0 = x := by rw [List.getD_eq_getElem?_getD, hx]; rfl
 obtain ⟨hk, hxs⟩ := L.at_of hx
 have hk0 : (0 : Int) < (s.size : Int) := by omega
 by_cases c5 : x = 82
 · subst c5
   rw [L.reg_yes (by omega) (by omega) hg]
   have hls : ((L.bs s).drop 1).length = s.size - 1 := by rw [List.length_drop, hl]
   generalize hX : (L.bs s).drop 1 = xs at *
   obtain ⟨d, hd⟩ : ∃ d, s.size = d + 1 := ⟨s.size - 1, by omega⟩
   rw [hd] at hls
   have hat := Lib.hid (fun (k : Nat) (y : Int) (hy : xs[k]? = some y) => L.at_of (s := s) (k := 1 + k) (x := y) (by rw [← hX, List.getElem?_drop] at hy; exact hy))
   have hd1 : (s.size : Int) - 1 = d := by omega
   have hd2 : d ≤ 2 := by omega
   have hls2 : xs.length = d := by omega
   clear hX hx hg hls
   go_enter Tryz.func109, Tryz.ntmps109
   go_wp2
   go_loopw [4, 20] (fun _ i wr => ∃ k : Nat, k ≤ d ∧ i = .int .i64 k ∧ (xs.take k).all L.digit = true ∧ w = wr) (fun _ i _ => d - (intOf i).toNat)
   case atStart => exact ⟨0, Nat.zero_le _, rfl, rfl, rfl⟩
   case round =>
    obtain ⟨k, hk, rfl, ht, rfl⟩ := hrel
    by_cases d1 : k < d
    · have d2 : (k : Int) < d := by omega
      obtain ⟨y, hy⟩ : ∃ y, xs[k]? = some y := ⟨_, List.getElem?_eq_getElem (by omega)⟩
      obtain ⟨hy1, hy2⟩ := hat.out k y hy
      have hy3 : 1 + (k : Int) < (s.size : Int) := by omega
      have hy4 : (0 : Int) ≤ 1 + (k : Int) := by omega
      have hy5 : (1 + (k : Int)).toNat = 1 + k := by omega
      cases p : L.digit y with
      | true =>
        have R := Lib.hid (all_step ht hy p)
        clear ht hy hat
        go_wp2_with (fail)
        refine (L.isDigit_any y w).mono ?_; rintro e w2 ⟨rfl, rfl⟩
        rw [p]
        go_wp2
        go_roundw
        case rel => exact ⟨k + 1, by omega, by go_num, R.out, by trivial⟩
        case measure => simp [intOf]; omega
      | false =>
        have R := Lib.hid (all_not hy p)
        clear ht hy hat
        go_wp2_with (fail)
        refine (L.isDigit_any y w).mono ?_; rintro e w2 ⟨rfl, rfl⟩
        rw [p]
        go_wp2
        go_ret
        exact ⟨congrArg (fun b => Ending.returned (Value.bool b)) R.out.symm, rfl⟩
    · have d2 : ¬ (k : Int) < d := by omega
      rw [List.take_of_length_le (by omega)] at ht
      have R := Lib.hid ht
      clear ht
      go_wp2
      go_ret
      exact ⟨congrArg (fun b => Ending.returned (Value.bool b)) R.out.symm, rfl⟩
 · rw [L.reg_no (Or.inr (Or.inr (by rw [hg]; exact c5)))]
   have c6 : (x != 82) = true := by simpa using c5
   have c7 : (x == 82) = false := by simpa using c5
   go_enter Tryz.func109, Tryz.ntmps109
   go_wp2
   go_ret
   exact ⟨rfl, rfl⟩
set_option maxRecDepth 100000 in
theorem L.rreg_any (s : ByteArray) (hs : s.size ≤ 1000000) (w : World) : Calls Tryz.prog 88 #[.string s] w fun e w' => e = .returned (.bool (L.reg (L.bs s))) ∧ w = w' := by
 have hl := L.bs_len s
 have hs1 : (s.size : Int) ≤ 1000000 := by omega
 by_cases c1 : s.size < 2
 · rw [L.reg_no (Or.inl (by omega))]
   have c2 : (s.size : Int) < 2 := by omega
   go_enter Tryz.func88, Tryz.ntmps88
   go_wp2
   go_ret
   exact ⟨rfl, rfl⟩
 have c3 : ¬ (s.size : Int) < 2 := by omega
 by_cases c2 : 3 < s.size
 · rw [L.reg_no (Or.inr (Or.inl (by omega)))]
   have c4 : (s.size : Int) > 3 := by omega
   go_enter Tryz.func88, Tryz.ntmps88
   go_wp2
   go_ret
   exact ⟨rfl, rfl⟩
 have c4 : ¬ (s.size : Int) > 3 := by omega
 obtain ⟨x, hx⟩ : ∃ x, (L.bs s)[0]? = some x := ⟨_, List.getElem?_eq_getElem (by omega)⟩
 have hg : (L.bs s).getD 0 0 = x := by rw [List.getD_eq_getElem?_getD, hx]; rfl
 obtain ⟨hk, hxs⟩ := L.at_of hx
 have hk0 : (0 : Int) < (s.size : Int) := by omega
 by_cases c5 : x = 82
 · subst c5
   rw [L.reg_yes (by omega) (by omega) hg]
   obtain ⟨y, hy⟩ : ∃ y, (L.bs s)[1]? = some y := ⟨_, List.getElem?_eq_getElem (by omega)⟩
   obtain ⟨hk1, hys⟩ := L.at_of hy
   have hk2 : (1 : Int) < (s.size : Int) := by omega
   cases p : L.digit y with
   | false =>
     rw [all_not (k := 0) (x := y) (p := L.digit) (by rw [List.getElem?_drop]; exact hy) p]
     clear hx hy hg hl
     go_enter Tryz.func88, Tryz.ntmps88
     go_wp2_with (fail)
     refine (L.rdigit_any y w).mono ?_; rintro e w2 ⟨rfl, rfl⟩
     rw [p]
     go_wp2
     go_ret
     exact ⟨rfl, rfl⟩
   | true =>
     by_cases c6 : s.size = 2
     · have r : ((L.bs s).drop 1).all L.digit = true := by
        have := all_step (p := L.digit) (xs := (L.bs s).drop 1) (k := 0) (x := y) rfl (by rw [List.getElem?_drop]; exact hy) p
        rwa [List.take_of_length_le (by simp; omega)] at this
       rw [r]
       clear hx hy hg hl r
       have c7 : (s.size : Int) = 2 := by omega
       go_enter Tryz.func88, Tryz.ntmps88
       go_wp2_with (fail)
       refine (L.rdigit_any y w).mono ?_; rintro e w2 ⟨rfl, rfl⟩
       rw [p]
       go_wp2
       go_ret
       exact ⟨rfl, rfl⟩
     · obtain ⟨z, hz⟩ : ∃ z, (L.bs s)[2]? = some z := ⟨_, List.getElem?_eq_getElem (by omega)⟩
       obtain ⟨hk3, hzs⟩ := L.at_of hz
       have hk4 : (2 : Int) < (s.size : Int) := by omega
       have c7 : ¬ (s.size : Int) = 2 := by omega
       have c8 : ((s.size : Int) == 2) = false := by simpa using c7
       have r : ((L.bs s).drop 1).all L.digit = L.digit z := by
        have h2 := all_step (p := L.digit) (xs := (L.bs s).drop 1) (k := 0) (x := y) rfl (by rw [List.getElem?_drop]; exact hy) p
        cases q : L.digit z with
        | true =>
          have := all_step (p := L.digit) (xs := (L.bs s).drop 1) (k := 1) (x := z) h2 (by rw [List.getElem?_drop]; exact hz) q
          rwa [List.take_of_length_le (by simp; omega)] at this
        | false => exact all_not (k := 1) (x := z) (p := L.digit) (by rw [List.getElem?_drop]; exact hz) q
       rw [r]
       clear hx hy hg hl r hz
       go_enter Tryz.func88, Tryz.ntmps88
       go_wp2_with (fail)
       refine (L.rdigit_any y w).mono ?_; rintro e w2 ⟨rfl, rfl⟩
       rw [p]
       go_wp2_with (fail)
       refine (L.rdigit_any z w).mono ?_; rintro e w2 ⟨rfl, rfl⟩
       go_wp2
       go_ret
       exact ⟨rfl, rfl⟩
 · rw [L.reg_no (Or.inr (Or.inr (by rw [hg]; exact c5)))]
   have c6 : (x != 82) = true := by simpa using c5
   have c7 : (x == 82) = false := by simpa using c5
   go_enter Tryz.func88, Tryz.ntmps88
   go_wp2
   go_ret
   exact ⟨rfl, rfl⟩
theorem L.name_no {xs : List Int} (h : xs.length < 1 ∨ 12 < xs.length ∨ L.letter (xs.getD 0 0) = false ∨ L.reg xs = true ∨ xs.all L.part = false) : L.name xs = false := by
 unfold L.name
 rcases h with h | h | h | h | h
 · rw [decide_eq_false (by omega)]; rfl
 · rw [decide_eq_false (by omega)]; rfl
 · rw [h]; simp
 · rw [h]; simp
 · rw [h]; simp
theorem L.name_yes {xs : List Int} (h1 : 1 ≤ xs.length) (h2 : xs.length ≤ 12) (h3 : L.letter (xs.getD 0 0) = true) (h4 : L.reg xs = false) : L.name xs = xs.all L.part := by
 unfold L.name
 rw [decide_eq_true (by omega), h3, h4]; rfl
theorem L.part_of {y : Int} (h : L.letter y = true ∨ L.digit y = true ∨ y = 95) : L.part y = true := by
 unfold L.part
 rcases h with h | h | h <;> simp [h]
theorem L.part_not {y : Int} (h1 : L.letter y = false) (h2 : L.digit y = false) (h3 : ¬ y = 95) : L.part y = false := by
 unfold L.part
 simp [h1, h2, h3]
set_option maxRecDepth 100000 in
theorem L.name_any (s : ByteArray) (hs : s.size ≤ 1000000) (w : World) : Calls Tryz.prog 86 #[.string s] w fun e w' => e = .returned (.bool (L.name (L.bs s))) ∧ w = w' := by
 have hl := L.bs_len s
 have hs1 : (s.size : Int) ≤ 1000000 := by omega
 by_cases c1 : s.size < 1
 · rw [L.name_no (Or.inl (by omega))]
   have c2 : (s.size : Int) < 1 := by omega
   go_enter Tryz.func86, Tryz.ntmps86
   go_wp2
   go_ret
   exact ⟨rfl, rfl⟩
 have c2 : ¬ (s.size : Int) < 1 := by omega
 by_cases c3 : 12 < s.size
 · rw [L.name_no (Or.inr (Or.inl (by omega)))]
   have c4 : (s.size : Int) > 12 := by omega
   go_enter Tryz.func86, Tryz.ntmps86
   go_wp2
   go_ret
   exact ⟨rfl, rfl⟩
 have c4 : ¬ (s.size : Int) > 12 := by omega
 obtain ⟨x, hx⟩ : ∃ x, (L.bs s)[0]? = some x := ⟨_, List.getElem?_eq_getElem (by omega)⟩
 have hg : (L.bs s).getD 0 0 = x := by rw [List.getD_eq_getElem?_getD, hx]; rfl
 obtain ⟨hk, hxs⟩ := L.at_of hx
 have hk0 : (0 : Int) < (s.size : Int) := by omega
 cases p0 : L.letter x with
 | false =>
   rw [L.name_no (Or.inr (Or.inr (Or.inl (by rw [hg]; exact p0))))]
   clear hx hg
   go_enter Tryz.func86, Tryz.ntmps86
   go_wp2_with (fail)
   refine (L.isLetter_any x w).mono ?_; rintro e w2 ⟨rfl, rfl⟩
   rw [p0]
   go_wp2
   go_ret
   exact ⟨rfl, rfl⟩
 | true =>
   have C := Lib.hid (L.isRegister_any s hs w)
   cases p1 : L.reg (L.bs s) with
   | true =>
     rw [L.name_no (Or.inr (Or.inr (Or.inr (Or.inl p1))))]
     rw [p1] at C
     clear hx hg
     go_enter Tryz.func86, Tryz.ntmps86
     go_wp2_with (fail)
     refine (L.isLetter_any x w).mono ?_; rintro e w2 ⟨rfl, rfl⟩
     rw [p0]
     go_wp2_with (fail)
     refine C.out.mono ?_; rintro e w2 ⟨rfl, rfl⟩
     go_wp2
     go_ret
     exact ⟨rfl, rfl⟩
   | false =>
     rw [L.name_yes (by omega) (by omega) (by rw [hg]; exact p0) p1]
     rw [p1] at C
     clear p1 hg hx
     have hat := Lib.hid (fun (k : Nat) (y : Int) (hy : (L.bs s)[k]? = some y) => L.at_of hy)
     generalize L.bs s = xs at *
     go_enter Tryz.func86, Tryz.ntmps86
     go_wp2_with (fail)
     refine (L.isLetter_any x w).mono ?_; rintro e w2 ⟨rfl, rfl⟩
     rw [p0]
     go_wp2_with (fail)
     refine C.out.mono ?_; rintro e w2 ⟨rfl, rfl⟩
     clear C
     obtain ⟨n, hn⟩ : ∃ n, s.size = n := ⟨_, rfl⟩
     have hn2 : (s.size : Int) = n := by rw [hn]
     go_wp2
     go_loopw [3, 24] (fun _ i wr => ∃ k : Nat, k ≤ n ∧ i = .int .i64 k ∧ (xs.take k).all L.part = true ∧ w = wr) (fun _ i _ => n - (intOf i).toNat)
     case atStart => exact ⟨0, Nat.zero_le _, rfl, rfl, rfl⟩
     case round =>
      obtain ⟨k, hk, rfl, ht, rfl⟩ := hrel
      by_cases d1 : k < n
      · have d2 : (k : Int) < n := by omega
        obtain ⟨y, hy⟩ : ∃ y, xs[k]? = some y := ⟨_, List.getElem?_eq_getElem (by omega)⟩
        obtain ⟨hy1, hy2⟩ := hat.out k y hy
        have hy3 : (k : Int) < (s.size : Int) := by omega
        have hy4 : (0 : Int) ≤ (k : Int) := by omega
        cases p2 : L.letter y with
        | true =>
          have R := Lib.hid (all_step ht hy (L.part_of (Or.inl p2)))
          clear ht hy hat
          go_wp2_with (fail)
          refine (L.isLetter_any y w).mono ?_; rintro e w2 ⟨rfl, rfl⟩
          rw [p2]
          go_wp2
          go_roundw
          case rel => exact ⟨k + 1, by omega, by go_num, R.out, by trivial⟩
          case measure => simp [intOf]; omega
        | false =>
          cases p3 : L.digit y with
          | true =>
            have R := Lib.hid (all_step ht hy (L.part_of (Or.inr (Or.inl p3))))
            clear ht hy hat
            go_wp2_with (fail)
            refine (L.isLetter_any y w).mono ?_; rintro e w2 ⟨rfl, rfl⟩
            rw [p2]
            go_wp2_with (fail)
            refine (L.isDigit_any y w).mono ?_; rintro e w2 ⟨rfl, rfl⟩
            rw [p3]
            go_wp2
            go_roundw
            case rel => exact ⟨k + 1, by omega, by go_num, R.out, by trivial⟩
            case measure => simp [intOf]; omega
          | false =>
            by_cases p4 : y = 95
            · have R := Lib.hid (all_step ht hy (L.part_of (Or.inr (Or.inr p4))))
              subst p4
              clear ht hy hat
              go_wp2_with (fail)
              refine (L.isLetter_any 95 w).mono ?_; rintro e w2 ⟨rfl, rfl⟩
              rw [p2]
              go_wp2_with (fail)
              refine (L.isDigit_any 95 w).mono ?_; rintro e w2 ⟨rfl, rfl⟩
              rw [p3]
              go_wp2
              go_roundw
              case rel => exact ⟨k + 1, by omega, by go_num, R.out, by trivial⟩
              case measure => simp [intOf]; omega
            · have R := Lib.hid (all_not (p := L.part) hy (L.part_not p2 p3 p4))
              have c6 : (y != 95) = true := by simpa using p4
              have c7 : (y == 95) = false := by simpa using p4
              clear ht hy hat
              go_wp2_with (fail)
              refine (L.isLetter_any y w).mono ?_; rintro e w2 ⟨rfl, rfl⟩
              rw [p2]
              go_wp2_with (fail)
              refine (L.isDigit_any y w).mono ?_; rintro e w2 ⟨rfl, rfl⟩
              rw [p3]
              go_wp2
              go_ret
              exact ⟨congrArg (fun b => Ending.returned (Value.bool b)) R.out.symm, rfl⟩
      · have d2 : ¬ (k : Int) < n := by omega
        rw [List.take_of_length_le (by omega)] at ht
        have R := Lib.hid ht
        clear ht
        go_wp2
        go_ret
        exact ⟨congrArg (fun b => Ending.returned (Value.bool b)) R.out.symm, rfl⟩
set_option maxRecDepth 100000 in
theorem L.rname_any (s : ByteArray) (hs : s.size ≤ 1000000) (w : World) : Calls Tryz.prog 68 #[.string s] w fun e w' => e = .returned (.bool (L.name (L.bs s))) ∧ w = w' := by
 have hl := L.bs_len s
 have hs1 : (s.size : Int) ≤ 1000000 := by omega
 by_cases c1 : s.size < 1
 · rw [L.name_no (Or.inl (by omega))]
   have c2 : (s.size : Int) < 1 := by omega
   go_enter Tryz.func68, Tryz.ntmps68
   go_wp2
   go_ret
   exact ⟨rfl, rfl⟩
 have c2 : ¬ (s.size : Int) < 1 := by omega
 by_cases c3 : 12 < s.size
 · rw [L.name_no (Or.inr (Or.inl (by omega)))]
   have c4 : (s.size : Int) > 12 := by omega
   go_enter Tryz.func68, Tryz.ntmps68
   go_wp2
   go_ret
   exact ⟨rfl, rfl⟩
 have c4 : ¬ (s.size : Int) > 12 := by omega
 obtain ⟨x, hx⟩ : ∃ x, (L.bs s)[0]? = some x := ⟨_, List.getElem?_eq_getElem (by omega)⟩
 have hg : (L.bs s).getD 0 0 = x := by rw [List.getD_eq_getElem?_getD, hx]; rfl
 obtain ⟨hk, hxs⟩ := L.at_of hx
 have hk0 : (0 : Int) < (s.size : Int) := by omega
 cases p0 : L.letter x with
 | false =>
   rw [L.name_no (Or.inr (Or.inr (Or.inl (by rw [hg]; exact p0))))]
   clear hx hg
   go_enter Tryz.func68, Tryz.ntmps68
   go_wp2_with (fail)
   refine (L.rletter_any x w).mono ?_; rintro e w2 ⟨rfl, rfl⟩
   rw [p0]
   go_wp2
   go_ret
   exact ⟨rfl, rfl⟩
 | true =>
   have C := Lib.hid (L.rreg_any s hs w)
   cases p1 : L.reg (L.bs s) with
   | true =>
     rw [L.name_no (Or.inr (Or.inr (Or.inr (Or.inl p1))))]
     rw [p1] at C
     clear hx hg
     go_enter Tryz.func68, Tryz.ntmps68
     go_wp2_with (fail)
     refine (L.rletter_any x w).mono ?_; rintro e w2 ⟨rfl, rfl⟩
     rw [p0]
     go_wp2_with (fail)
     refine C.out.mono ?_; rintro e w2 ⟨rfl, rfl⟩
     go_wp2
     go_ret
     exact ⟨rfl, rfl⟩
   | false =>
     rw [L.name_yes (by omega) (by omega) (by rw [hg]; exact p0) p1]
     rw [p1] at C
     clear p1 hg hx
     have hat := Lib.hid (fun (k : Nat) (y : Int) (hy : (L.bs s)[k]? = some y) => L.at_of hy)
     generalize L.bs s = xs at *
     go_enter Tryz.func68, Tryz.ntmps68
     go_wp2_with (fail)
     refine (L.rletter_any x w).mono ?_; rintro e w2 ⟨rfl, rfl⟩
     rw [p0]
     go_wp2_with (fail)
     refine C.out.mono ?_; rintro e w2 ⟨rfl, rfl⟩
     clear C
     obtain ⟨n, hn⟩ : ∃ n, s.size = n := ⟨_, rfl⟩
     have hn2 : (s.size : Int) = n := by rw [hn]
     go_wp2
     go_loopw [3] (fun i wr => ∃ k : Nat, k ≤ n ∧ i = .int .i64 k ∧ (xs.take k).all L.part = true ∧ w = wr) (fun i _ => n - (intOf i).toNat)
     case atStart => exact ⟨0, Nat.zero_le _, rfl, rfl, rfl⟩
     case round =>
      obtain ⟨k, hk, rfl, ht, rfl⟩ := hrel
      by_cases d1 : k < n
      · have d2 : (k : Int) < n := by omega
        obtain ⟨y, hy⟩ : ∃ y, xs[k]? = some y := ⟨_, List.getElem?_eq_getElem (by omega)⟩
        obtain ⟨hy1, hy2⟩ := hat.out k y hy
        have hy3 : (k : Int) < (s.size : Int) := by omega
        have hy4 : (0 : Int) ≤ (k : Int) := by omega
        cases p2 : L.letter y with
        | true =>
          have R := Lib.hid (all_step ht hy (L.part_of (Or.inl p2)))
          clear ht hy hat
          go_wp2_with (fail)
          refine (L.rletter_any y w).mono ?_; rintro e w2 ⟨rfl, rfl⟩
          rw [p2]
          go_wp2
          go_roundw
          case rel => exact ⟨k + 1, by omega, by go_num, R.out, by trivial⟩
          case measure => simp [intOf]; omega
        | false =>
          cases p3 : L.digit y with
          | true =>
            have R := Lib.hid (all_step ht hy (L.part_of (Or.inr (Or.inl p3))))
            clear ht hy hat
            go_wp2_with (fail)
            refine (L.rletter_any y w).mono ?_; rintro e w2 ⟨rfl, rfl⟩
            rw [p2]
            go_wp2_with (fail)
            refine (L.rdigit_any y w).mono ?_; rintro e w2 ⟨rfl, rfl⟩
            rw [p3]
            go_wp2
            go_roundw
            case rel => exact ⟨k + 1, by omega, by go_num, R.out, by trivial⟩
            case measure => simp [intOf]; omega
          | false =>
            by_cases p4 : y = 95
            · have R := Lib.hid (all_step ht hy (L.part_of (Or.inr (Or.inr p4))))
              subst p4
              clear ht hy hat
              go_wp2_with (fail)
              refine (L.rletter_any 95 w).mono ?_; rintro e w2 ⟨rfl, rfl⟩
              rw [p2]
              go_wp2_with (fail)
              refine (L.rdigit_any 95 w).mono ?_; rintro e w2 ⟨rfl, rfl⟩
              rw [p3]
              go_wp2
              go_roundw
              case rel => exact ⟨k + 1, by omega, by go_num, R.out, by trivial⟩
              case measure => simp [intOf]; omega
            · have R := Lib.hid (all_not (p := L.part) hy (L.part_not p2 p3 p4))
              have c6 : (y != 95) = true := by simpa using p4
              have c7 : (y == 95) = false := by simpa using p4
              clear ht hy hat
              go_wp2_with (fail)
              refine (L.rletter_any y w).mono ?_; rintro e w2 ⟨rfl, rfl⟩
              rw [p2]
              go_wp2_with (fail)
              refine (L.rdigit_any y w).mono ?_; rintro e w2 ⟨rfl, rfl⟩
              rw [p3]
              go_wp2
              go_ret
              exact ⟨congrArg (fun b => Ending.returned (Value.bool b)) R.out.symm, rfl⟩
      · have d2 : ¬ (k : Int) < n := by omega
        rw [List.take_of_length_le (by omega)] at ht
        have R := Lib.hid ht
        clear ht
        go_wp2
        go_ret
        exact ⟨congrArg (fun b => Ending.returned (Value.bool b)) R.out.symm, rfl⟩
theorem Below.newCell {w : World} {p : Addr} {v : Value} (h : w.cell? p = some v) (o : Obj) : (w.alloc o).cell? p = some v :=
 (World.cell?_of_block (Below.heap_alloc w o p.block (World.block_lt_of_cell? w p h))).trans h
theorem Ob.nowhere_any {w : World} {E : Nat} {e : Int} (s : ByteArray) (a : Int) (g : w.cell? ⟨E, 0, none⟩ = some (.int .i64 e)) :
 Calls Tryz.prog 63 #[.agg #[.string s, .int .i64 a], .pointer (some ⟨E, 0, none⟩)] w fun e' w' => e' = .returned (.bool (!decide (0 ≤ a ∧ a ≤ e ∧ a % 4 = 0))) ∧ Below w.heap.size w w' := by
 have g2 := Below.newCell g (.cells #[.string s, .int .i64 a] 61)
 have hm := Lib.hid ((Kept.refl w).alloc #[.string s, .int .i64 a] 61).below
 clear g
 obtain ⟨q, hq⟩ : ∃ q, q = !decide (0 ≤ a ∧ a ≤ e ∧ a % 4 = 0) := ⟨_, rfl⟩
 rw [← hq]
 by_cases c1 : a < 0
 · have R := Lib.hid (show q = true by rw [hq, decide_eq_false (by omega)]; rfl)
   clear hq
   go_enter Tryz.func63, Tryz.ntmps63
   go_wp2
   go_ret
   exact ⟨Ob.retB R.out.symm, hm.out⟩
 · by_cases c2 : e < a
   · have R := Lib.hid (show q = true by rw [hq, decide_eq_false (by omega)]; rfl)
     clear hq
     go_enter Tryz.func63, Tryz.ntmps63
     go_wp2
     go_ret
     exact ⟨Ob.retB R.out.symm, hm.out⟩
   · by_cases c3 : a % 4 = 0
     · have R := Lib.hid (show q = false by rw [hq, decide_eq_true (by omega)]; rfl)
       clear hq
       go_enter Tryz.func63, Tryz.ntmps63
       go_wp2
       go_ret
       exact ⟨Ob.retB R.out.symm, hm.out⟩
     · have R := Lib.hid (show q = true by rw [hq, decide_eq_false (by omega)]; rfl)
       have c4 : (a % 4 != 0) = true := by simpa using c3
       have c5 : (a % 4 == 0) = false := by simpa using c3
       clear hq
       go_enter Tryz.func63, Tryz.ntmps63
       go_wp2
       go_ret
       exact ⟨Ob.retB R.out.symm, hm.out⟩
theorem Ob.wrongInTurn_any (w : World) :
 Calls Tryz.prog 66 #[] w fun e w' => e = .returned (.func (.func 85) #[] #[.pointer (some ⟨w.heap.size, 0, none⟩)]) ∧ w' = w.alloc (.cells #[.string Ob.e0] 9) := by
 have e : Ob.e0 = { data := #[] } := rfl
 rw [e]
 go_enter Tryz.func66, Tryz.ntmps66
 go_wp2
 go_ret
 exact ⟨rfl, rfl⟩
theorem Ob.turn_any {w : World} {G : Nat} {p : ByteArray} (hG : Has G #[.string p] 9 w) (s : ByteArray) (a : Int) (hs : s.size ≤ 1000000) :
 Calls Tryz.prog 85 #[.agg #[.string s, .int .i64 a], .pointer (some ⟨G, 0, none⟩)] w fun e w' => e = .returned (.bool (!decide (L.name (L.bs s) = true ∧ Ob.bl p s = true))) ∧ Has G #[.string s] 9 w' ∧ But G w w' := by
 have hG1 := hG.alloc (.cells #[.string s, .int .i64 a] 61)
 have hm := Lib.hid (((But.refl G w).setCell 0 (.string s)).trans (((Kept.refl _).alloc #[.string s, .int .i64 a] 61).but G))
 have g1 := hG1.cell 0 (.string p) rfl
 have g2 := hG1.free 0
 have hG2 := Lib.hid (show Has G #[.string s] 9 _ from (hG.set 0 (.string s)).alloc (.cells #[.string s, .int .i64 a] 61))
 have C := Lib.hid (fun w => L.name_any s hs w)
 have hlt := hG.lt
 have hne : (G = w.heap.size) = False := eq_false (by omega)
 clear hG hG1
 obtain ⟨q, hq⟩ : ∃ q, q = !decide (L.name (L.bs s) = true ∧ Ob.bl p s = true) := ⟨_, rfl⟩
 rw [← hq]
 cases c1 : L.name (L.bs s) with
 | false =>
   have R := Lib.hid (show q = true by rw [hq, decide_eq_false (by rw [c1]; simp)]; rfl)
   rw [c1] at C
   clear hq
   go_enter Tryz.func85, Tryz.ntmps85
   go_wp2_with (fail)
   refine (C.out _).mono ?_; rintro e w2 ⟨rfl, rfl⟩
   go_wp2
   go_ret
   exact ⟨Ob.retB R.out.symm, hG2.out, hm.out⟩
 | true =>
   rw [c1] at C
   cases c2 : Ob.bl p s with
   | true =>
     have R := Lib.hid (show q = false by rw [hq, decide_eq_true ⟨c1, c2⟩]; rfl)
     have c3 := Ob.le_not c2
     clear hq
     go_enter Tryz.func85, Tryz.ntmps85
     go_wp2_with (fail)
     refine (C.out _).mono ?_; rintro e w2 ⟨rfl, rfl⟩
     go_wp2
     go_ret
     exact ⟨Ob.retB R.out.symm, hG2.out, hm.out⟩
   | false =>
     have R := Lib.hid (show q = true by rw [hq, decide_eq_false (by rw [c2]; simp)]; rfl)
     have c3 := Ob.le_yes c2
     clear hq
     go_enter Tryz.func85, Tryz.ntmps85
     go_wp2_with (fail)
     refine (C.out _).mono ?_; rintro e w2 ⟨rfl, rfl⟩
     go_wp2
     go_ret
     exact ⟨Ob.retB R.out.symm, hG2.out, hm.out⟩
theorem Bel.but {N G : Nat} {a b c : World} (h : Below N a b) (k : But G b c) (hN : N ≤ G) (hs : N ≤ b.heap.size) : Below N a c :=
 h.trans ⟨k.os, k.tape, k.output, k.size, fun i hi => k.block i (by omega) (by omega)⟩
theorem Ob.not_low {ws ss : List Int} {n m : Nat} (hn : ws.length = n) (hm : ss.length = m) : decide (∃ k, k < m ∧ decide (4 * (n : Int) < ws.getD (ss.getD k 0).toNat 0) = true) = !decide (Ob.Low ws ss) := by
 subst hn hm
 rw [← decide_not]
 apply decide_eq_decide.2
 constructor
 · rintro ⟨k, hk, h⟩ hL
   have := hL k hk
   unfold Ob.LowAt Ch.val at this
   have h := of_decide_eq_true h
   omega
 · intro h
   apply Classical.byContradiction
   intro hn
   refine h fun k hk => ?_
   unfold Ob.LowAt Ch.val
   rcases Int.lt_or_le (4 * (ws.length : Int)) (ws.getD (ss.getD k 0).toNat 0) with c | c
   · exact absurd ⟨k, hk, decide_eq_true c⟩ hn
   · exact c
theorem Ob.not_names {ys : List Ob.Y} {n : Nat} (hn : ys.length = n) : decide (∃ k, k < n ∧ (!decide (L.name (L.bs (Ob.nm ys k)) = true ∧ Ob.bl (Ob.pr ys k) (Ob.nm ys k) = true)) = true) = !decide (Ob.Names ys) := by
 subst hn
 rw [← decide_not]
 apply decide_eq_decide.2
 constructor
 · rintro ⟨k, hk, h⟩ hL
   have := hL k hk
   unfold Ob.OkN at this
   rw [decide_eq_true this] at h
   cases h
 · intro h
   apply Classical.byContradiction
   intro hn
   refine h fun k hk => ?_
   apply Classical.byContradiction
   intro c
   unfold Ob.OkN at c
   exact hn ⟨k, hk, by rw [decide_eq_false c]; rfl⟩
theorem Ob.not_places {ys : List Ob.Y} {n : Nat} {e : Int} (hn : ys.length = n) : decide (∃ k, k < n ∧ (!decide (0 ≤ Ob.pl ys k ∧ Ob.pl ys k ≤ e ∧ Ob.pl ys k % 4 = 0)) = true) = !decide (Ob.Places e ys) := by
 subst hn
 rw [← decide_not]
 apply decide_eq_decide.2
 constructor
 · rintro ⟨k, hk, h⟩ hL
   have := hL k hk
   unfold Ob.OkP at this
   rw [decide_eq_true this] at h
   cases h
 · intro h
   apply Classical.byContradiction
   intro hn
   refine h fun k hk => ?_
   apply Classical.byContradiction
   intro c
   unfold Ob.OkP at c
   exact hn ⟨k, hk, by rw [decide_eq_false c]; rfl⟩
theorem Ob.size_at {ys : List Ob.Y} {M : Nat} (h : ∀ y ∈ ys, y.1.size ≤ M) (k : Nat) : (Ob.nm ys k).size ≤ M := by
 rcases Nat.lt_or_ge k ys.length with c | c
 · rw [Ob.nm_get c]; exact h _ (List.getElem_mem c)
 · unfold Ob.nm
   rw [List.getD_eq_getElem?_getD, List.getElem?_eq_none c]
   exact Nat.zero_le _
theorem Ob.asks_low {w : World} {A B : Option Addr} {n c m d O E : Nat} {V1 V2 : Value} {ws ss : List Int} (hW : Wo w A n c ws) (hS : In w B m d ss) (hR : Ch.Rises n ss) (hO : Has O #[.slice A n c, V1, V2] 33 w) (hE : Has E #[.int .i64 (4 * (n : Int))] 3 w) :
 Calls Tryz.prog 64 #[.slice B m d, .func (.func 62) #[] #[.pointer (some ⟨O, 0, none⟩), .pointer (some ⟨E, 0, none⟩)]] w fun e w' => e = .returned (.bool (!decide (Ob.Low ws ss))) ∧ Below w.heap.size w w' := by
 rw [← Ob.not_low hW.len hS.len]
 refine (Ob.contains_int #[.pointer (some ⟨O, 0, none⟩), .pointer (some ⟨E, 0, none⟩)] (fun k => decide (4 * (n : Int) < ws.getD (ss.getD k 0).toNat 0)) (fun _ w' => Below w.heap.size w w') (fun k w' hb => ⟨hS.len, hS.le, hS.max, hS.nil, (hS.below hb).cel⟩) ?_ w (Below.refl _ _)).mono fun e w' h => ⟨h.1, h.2.elim fun k hk => hk⟩
 intro k w' hk hb
 have h1 := Ch.at_ge hR k (by rw [hS.len]; exact hk)
 obtain ⟨s, hs⟩ : ∃ s : Nat, ss.getD k 0 = s := ⟨_, (Int.toNat_of_nonneg h1.1).symm⟩
 have hsn : s < n := by omega
 obtain ⟨b, off, rfl⟩ := hW.place (by omega)
 rw [hs, Int.toNat_natCast]
 refine (Ob.beyond_any (V1 := V1) (V2 := V2) ((hO.below hb).cell 0 _ rfl) (hW.below hb) ((hE.below hb).cell 0 _ rfl) s hsn).mono fun e w'' h => ⟨h.1, hb.trans (h.2.mono hb.size)⟩
theorem Ob.asks_names {w w1 : World} {C : Option Addr} {k c G : Nat} {ys : List Ob.Y} (hY : Sy w C k c ys) (hsz : ∀ y ∈ ys, y.1.size ≤ 1000000) (hb : Below w.heap.size w w1) (hG : Has G #[.string Ob.e0] 9 w1) (hN : w.heap.size ≤ G) :
 Calls Tryz.prog 65 #[.slice C k c, .func (.func 85) #[] #[.pointer (some ⟨G, 0, none⟩)]] w1 fun e w' => e = .returned (.bool (!decide (Ob.Names ys))) ∧ Below w.heap.size w w' := by
 rw [← Ob.not_names hY.len]
 refine (Ob.contains_turn #[.pointer (some ⟨G, 0, none⟩)] (fun j => !decide (L.name (L.bs (Ob.nm ys j)) = true ∧ Ob.bl (Ob.pr ys j) (Ob.nm ys j) = true)) (fun j w' => Has G #[.string (Ob.pr ys j)] 9 w' ∧ Below w.heap.size w w') (fun j w' h => hY.below h.2) ?_ _ ⟨hG, hb⟩).mono fun e w' h => ⟨h.1, h.2.elim fun j hj => hj.2⟩
 intro j w' hj h
 refine (Ob.turn_any h.1 (Ob.nm ys j) (Ob.pl ys j) (Ob.size_at hsz j)).mono fun e w'' q => ⟨q.1, q.2.1, Bel.but h.2 q.2.2 hN h.2.size⟩
theorem Ob.asks_places {w : World} {C : Option Addr} {k c E : Nat} {ys : List Ob.Y} {e : Int} (hY : Sy w C k c ys) (hE : Has E #[.int .i64 e] 3 w) :
 Calls Tryz.prog 65 #[.slice C k c, .func (.func 63) #[] #[.pointer (some ⟨E, 0, none⟩)]] w fun r w' => r = .returned (.bool (!decide (Ob.Places e ys))) ∧ Below w.heap.size w w' := by
 rw [← Ob.not_places hY.len]
 refine (Ob.contains_at #[.pointer (some ⟨E, 0, none⟩)] (fun j => !decide (0 ≤ Ob.pl ys j ∧ Ob.pl ys j ≤ e ∧ Ob.pl ys j % 4 = 0)) (fun _ w' => Below w.heap.size w w') (fun j w' h => hY.below h) ?_ w (Below.refl _ _)).mono fun e w' h => ⟨h.1, h.2.elim fun k hk => hk⟩
 intro j w' hj hb
 refine (Ob.nowhere_any (Ob.nm ys j) (Ob.pl ys j) ((hE.below hb).cell 0 _ rfl)).mono fun e w'' h => ⟨h.1, hb.trans (h.2.mono hb.size)⟩
set_option maxRecDepth 100000 in
set_option maxHeartbeats 2000000 in
theorem Ob.may_any {w : World} {A B C : Option Addr} {n c m d k e : Nat} {ws ss : List Int} {ys : List Ob.Y} (hW : Wo w A n c ws) (hS : In w B m d ss) (hY : Sy w C k e ys) (hsz : ∀ y ∈ ys, y.1.size ≤ 1000000) :
 Calls Tryz.prog 37 #[.agg #[.slice A n c, .slice B m d, .slice C k e]] w fun r w' => r = .returned (.int .i64 (Ob.may ws ss ys)) ∧ Below w.heap.size w w' := by
 have hO := Has.new #[.slice A n c, .slice B m d, .slice C k e] 33 w
 have hB := ((Kept.refl w).alloc #[.slice A n c, .slice B m d, .slice C k e] 33).below
 have hlw := hW.len
 have hly := hY.len
 have hle := hW.le
 have hmx := hW.max
 have hle2 := hY.le
 have hmx2 := hY.max
 unfold maxLen at hmx hmx2
 replace hW := Lib.hid (hW.below hB)
 replace hS := Lib.hid (hS.below hB)
 replace hY := Lib.hid (hY.below hB)
 obtain ⟨q, hq⟩ : ∃ q, q = Ob.may ws ss ys := ⟨_, rfl⟩
 rw [← hq]
 by_cases c1 : 1024 < n
 · have R := Lib.hid (hq.trans (Ob.may_2 (Or.inl (by omega))))
   have c2 : (n : Int) > 1024 := by omega
   clear hO hq
   replace hB := Lib.hid hB
   go_enter Tryz.func37, Tryz.ntmps37
   go_wp2
   go_ret
   exact ⟨Ob.ret R.out.symm, hB.out⟩
 have c2 : ¬ (n : Int) > 1024 := by omega
 by_cases c3 : 64 < k
 · have R := Lib.hid (hq.trans (Ob.may_2 (Or.inr (by omega))))
   have c4 : (k : Int) > 64 := by omega
   clear hO hq
   replace hB := Lib.hid hB
   go_enter Tryz.func37, Tryz.ntmps37
   go_wp2
   go_ret
   exact ⟨Ob.ret R.out.symm, hB.out⟩
 have c4 : ¬ (k : Int) > 64 := by omega
 have hbig : ¬ (1024 < ws.length ∨ 64 < ys.length) := by omega
 replace hq := Lib.hid hq
 go_enter Tryz.func37, Tryz.ntmps37
 go_wp2_with (fail)
 generalize w.alloc (.cells #[.slice A n c, .slice B m d, .slice C k e] 33) = w1 at *
 refine (Ch.pack_any hW.out hS.out (by omega)).mono ?_; rintro r w2 ⟨A1, n1, m1, rfl, hP, hE⟩
 clear hP
 replace hB := Lib.hid (hB.trans (hE.mono hB.size))
 replace hO := hO.below hE
 replace hW := Lib.hid (hW.out.below hE)
 replace hS := Lib.hid (hS.out.below hE)
 replace hY := Lib.hid (hY.out.below hE)
 clear hE
 by_cases c5 : Ch.Rises ws.length ss
 case neg =>
  have R := Lib.hid (hq.out.trans (Ob.may_7 hbig c5))
  rw [(Ch.pE_no c5).1]
  generalize Ch.pH ws ss = ph at *
  clear hO hq
  go_wp2
  go_ret
  exact ⟨Ob.ret R.out.symm, hB.out⟩
 have c6 : (Ch.pE ws ss == 7) = false := by
  by_cases f : Ch.Fits ws ss
  · rw [(Ch.pE_yes c5 f).1]; rfl
  · rw [(Ch.pE_big c5 f).1]; rfl
 have hR := c5
 rw [hlw] at hR
 replace hR := Lib.hid hR
 replace c5 := Lib.hid c5
 generalize Ch.pE ws ss = pe at *
 generalize Ch.pH ws ss = ph at *
 have o0 := hO.cell 0 (.slice A n c) rfl
 have p1 := Below.newCell (hO.cell 1 (.slice B m d) rfl) (.cells #[.int .i64 (4 * (n : Int))] 3)
 have hA3 := ((Kept.refl w2).alloc #[.int .i64 (4 * (n : Int))] 3).below
 have hF := Has.new #[.int .i64 (4 * (n : Int))] 3 w2
 go_wp2_with (fail)
 generalize w2.alloc (.cells #[.int .i64 (4 * (n : Int))] 3) = w3 at *
 clear o0 p1
 replace hB := Lib.hid (hB.out.trans (hA3.mono hB.out.size))
 replace hO := hO.below hA3
 replace hW := Lib.hid (hW.out.below hA3)
 replace hS := Lib.hid (hS.out.below hA3)
 replace hY := Lib.hid (hY.out.below hA3)
 clear hA3
 refine (Ob.asks_low hW.out hS.out hR.out hO hF).mono ?_; rintro r w4 ⟨rfl, hE⟩
 replace hB := Lib.hid (hB.out.trans (hE.mono hB.out.size))
 replace hO := hO.below hE
 replace hF := hF.below hE
 replace hY := Lib.hid (hY.out.below hE)
 clear hE hW hS hR
 by_cases c7 : Ob.Low ws ss
 case neg =>
  have R := Lib.hid (hq.out.trans (Ob.may_8 hbig c5.out c7))
  rw [decide_eq_false c7]
  clear hO hF hq
  go_wp2
  go_ret
  exact ⟨Ob.ret R.out.symm, hB.out⟩
 rw [decide_eq_true c7]
 replace c7 := Lib.hid c7
 have o2 := hO.cell 2 (.slice C k e) rfl
 replace hO := Lib.hid hO
 replace hF := Lib.hid hF
 clear o2
 go_wp2_with (fail)
 refine wp_region_held_drew (S := fun w' => Below w4.heap.size w4 w') (by kernel_rfl) ((Below.refl _ _).drew) (fun hHeld => ?_)
 replace hB := Lib.hid (hB.out.trans (hHeld.mono hB.out.size))
 replace hO := Lib.hid (hO.out.below hHeld)
 replace hF := Lib.hid (hF.out.below hHeld)
 replace hY := Lib.hid (hY.out.below hHeld)
 refine wpAnyH_now _ _ _ _ hHeld (fun hHeld => ?_)
 generalize w4.drew = w4d at *
 refine tk 0 _ (v := ?_) hHeld ?_ ?_
 rotate_left
 · (intro wz hSw; go_simp; try with_reducible rfl)
 try simp only [Act.put, pq]
 refine tk 1 _ (v := ?_) hHeld ?_ ?_
 rotate_left
 · (intro wz hSw; have o2 := (hO.out.below hSw).cell 2 (.slice C k e) rfl; go_simp; try with_reducible rfl)
 try simp only [Act.put, pq]
 refine wpAnyH_ready (rs := [2]) (by kernel_rfl) (by simp) ?_
 refine AllReadyH.cons (o := _) rfl (fun K hK => ?_) AllReadyH.nil
 go_simp
 go_at_call 66
 refine (Ob.wrongInTurn_any _).mono ?_
 rintro e w6 ⟨rfl, rfl⟩
 have hG := Has.new #[.string Ob.e0] 9 w4d
 have hE := ((Kept.refl w4d).alloc #[.string Ob.e0] 9).below
 have hb := Lib.hid hE
 generalize w4d.alloc (.cells #[.string Ob.e0] 9) = w6 at *
 clear hHeld
 refine hK.out _ _ hE (fun hHeld => ?_)
 clear hK K hE
 try simp only [Act.put, pq]
 refine wpAnyH_ready (rs := [3]) (by kernel_rfl) (by simp) ?_
 refine AllReadyH.cons (o := _) rfl (fun K hK => ?_) AllReadyH.nil
 go_simp
 go_at_call 65
 refine (Ob.asks_names hY.out hsz hb.out hG (Nat.le_refl _)).mono ?_
 rintro e w7 ⟨rfl, hE⟩
 clear hHeld
 refine hK.out _ _ hE (fun hHeld => ?_)
 clear hK K
 replace hB := Lib.hid (hB.out.trans (hE.mono hB.out.size))
 replace hO := Lib.hid (hO.out.below hE)
 replace hF := Lib.hid (hF.out.below hE)
 replace hY := Lib.hid (hY.out.below hE)
 refine wpAnyH_now _ _ _ _ hE (fun hHeld => ?_)
 clear hE
 try simp only [Act.put, pq]
 refine tk 4 _ (v := ?_) hHeld ?_ ?_
 rotate_left
 · (intro wz hSw; go_simp; try with_reducible rfl)
 try simp only [Act.put, pq]
 refine wpAnyH_done (by kernel_rfl) ?_ _
 replace hO := hO.out
 replace hF := hF.out
 by_cases c8 : Ob.Names ys
 case neg =>
  have R := Lib.hid (hq.out.trans (Ob.may_9 hbig c5.out c7.out c8))
  rw [decide_eq_false c8]
  clear hO hF hq
  go_wp2
  go_ret
  exact ⟨Ob.ret R.out.symm, hB.out⟩
 rw [decide_eq_true c8]
 replace c8 := Lib.hid c8
 have o2 := hO.cell 2 (.slice C k e) rfl
 go_wp2_with (fail)
 refine (Ob.asks_places hY.out hF).mono ?_; rintro r w8 ⟨rfl, hE⟩
 replace hB := Lib.hid (hB.out.trans (hE.mono hB.out.size))
 clear hE hO hF hY o2
 by_cases c9 : Ob.Places (4 * (n : Int)) ys
 · have R := Lib.hid (hq.out.trans (Ob.may_0 hbig c5.out c7.out c8.out (by rw [hlw]; exact c9)))
   rw [decide_eq_true c9]
   clear hq
   go_wp2
   go_ret
   exact ⟨Ob.ret R.out.symm, hB.out⟩
 · have R := Lib.hid (hq.out.trans (Ob.may_88 hbig c5.out c7.out c8.out (by rw [hlw]; exact c9)))
   rw [decide_eq_false c9]
   clear hq
   go_wp2
   go_ret
   exact ⟨Ob.ret R.out.symm, hB.out⟩
end Go.Proofs.YtpfgmfiegnkocaaGreat
