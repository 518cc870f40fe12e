/-
  A world that has grown: nothing that was there has turned, and nothing is frozen that was not: what the contracts of functions that make memory say of the world.
-/
import Derived.RowKit
import Derived.RowKit3
import Derived.WalkKit
import Derived.Below
import Derived.OneCell
import Derived.Deep.Draws
namespace Go.Proofs.YtpbgniffjlcbhaaDoor
open Go.RowKit
set_option linter.unusedVariables false
set_option linter.unusedSimpArgs false
set_option maxRecDepth 100000

structure Kept (w w' : World) : Prop where
  below : Below w.heap.size w w'
  froze : ∀ a, w'.frozen? a = w.frozen? a
theorem Kept.refl (w : World) : Kept w w := ⟨Below.refl _ _, fun _ => rfl⟩
theorem Kept.trans {a b c : World} (h : Kept a b) (k : Kept b c) : Kept a c :=
  ⟨h.below.trans (k.below.mono h.below.size), fun x => (k.froze x).trans (h.froze x)⟩
theorem Kept.drew {a b : World} (h : Kept a b) : Kept a b.drew := ⟨h.below.drew, h.froze⟩
theorem Kept.drewN {a b : World} (h : Kept a b) (n : Nat) : Kept a (b.drewN n) := ⟨⟨h.below.os, h.below.tape, h.below.output, h.below.size, h.below.block⟩, h.froze⟩
theorem Kept.alloc {a b : World} (h : Kept a b) (c : Array Value) (t : TypeId) : Kept a (b.alloc (.cells c t)) :=
  ⟨h.below.alloc h.below.size _, fun x => (frozen?_alloc_cells _ _ _ x).trans (h.froze x)⟩
theorem Kept.setCell {a b : World} (h : Kept a b) {p : Addr} (hp : a.heap.size ≤ p.block) (v : Value) : Kept a (b.setCell p v) :=
  ⟨h.below.setCell hp v, fun x => (World.frozen?_setCell _ _ _ _).trans (h.froze x)⟩
theorem Kept.grown {a b : World} (h : Kept a b) : Grown a b := ⟨h.below.frame _, h.froze, h.below.size⟩
theorem Kept.cell {a b : World} (h : Kept a b) {p : Addr} (hp : p.block < a.heap.size) : b.cell? p = a.cell? p := h.below.cell hp
theorem Kept.size {a b : World} (h : Kept a b) : a.heap.size ≤ b.heap.size := h.below.size
theorem Kept.block {a b : World} (h : Kept a b) {k : Nat} {o : Obj} (hk : a.heap[k]? = some o) : b.heap[k]? = some o := (h.below.block k (lt_of_block hk)).trans hk
/-- the same from the block B on: blocks below B are as they were -/
structure KeptB (B : Nat) (w w' : World) : Prop where
  below : Below B w w'
  froze : ∀ a, w'.frozen? a = w.frozen? a
theorem KeptB.refl (B : Nat) (w : World) : KeptB B w w := ⟨Below.refl _ _, fun _ => rfl⟩
theorem KeptB.trans {B : Nat} {a b c : World} (h : KeptB B a b) (k : KeptB B b c) : KeptB B a c :=
  ⟨h.below.trans k.below, fun x => (k.froze x).trans (h.froze x)⟩
theorem KeptB.drew {B : Nat} {a b : World} (h : KeptB B a b) : KeptB B a b.drew := ⟨h.below.drew, h.froze⟩
theorem KeptB.setCell {B : Nat} {a b : World} (h : KeptB B a b) {p : Addr} (hp : B ≤ p.block) (v : Value) : KeptB B a (b.setCell p v) :=
  ⟨h.below.setCell hp v, fun x => (World.frozen?_setCell _ _ _ _).trans (h.froze x)⟩
theorem Kept.transB {B : Nat} {a b c : World} (h : Kept a b) (k : KeptB B b c) (hB : a.heap.size ≤ B) : Kept a c :=
  ⟨h.below.trans (k.below.mono hB), fun x => (k.froze x).trans (h.froze x)⟩
theorem heap_alloc_last (w : World) (o : Obj) : (w.alloc o).heap[w.heap.size]? = some o := by
  show (w.heap.push o)[w.heap.size]? = _
  rw [Array.getElem?_push, if_pos rfl]
theorem heap_alloc_keep {w : World} {b : Nat} {o : Obj} (h : w.heap[b]? = some o) (o' : Obj) : (w.alloc o').heap[b]? = some o :=
  (Below.heap_alloc w o' b (lt_of_block h)).trans h
theorem heap_setCell_keep {w : World} {b : Nat} {o : Obj} (h : w.heap[b]? = some o) {p : Addr} (hp : b ≠ p.block) (v : Value) : (w.setCell p v).heap[b]? = some o :=
  (Below.heap_setCell w p v b hp).trans h
theorem r1 {k : IntKind} {a b : Int} {w : World} (h : a = b) : Ending.returned (.int k a) = .returned (.int k b) ∧ w = w := ⟨by rw [h], rfl⟩
theorem r1b {a b : Bool} {w : World} (h : a = b) : Ending.returned (.bool a) = .returned (.bool b) ∧ w = w := ⟨by rw [h], rfl⟩
theorem r1k {k : IntKind} {a b : Int} {w w' : World} (h : a = b) (hk : Kept w w') : Ending.returned (.int k a) = .returned (.int k b) ∧ Kept w w' := ⟨by rw [h], hk⟩
theorem r1bk {a b : Bool} {w w' : World} (h : a = b) (hk : Kept w w') : Ending.returned (.bool a) = .returned (.bool b) ∧ Kept w w' := ⟨by rw [h], hk⟩
end Go.Proofs.YtpbgniffjlcbhaaDoor
