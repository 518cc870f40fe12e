/-
  Blocks of memory that are known whole, by cells that are whatever: what a load, a store and a build of a struct do to them. No Go text is named here.
-/
import Derived.Test.YtpbgniffjlcbhaaDoorKit0
import Derived.Deep.MidRow
import Derived.Deep.WholeRow
import Derived.Laws.StructEq
namespace Go.Proofs.YtpbgniffjlcbhaaDoor
open Go.RowKit
set_option linter.unusedVariables false
set_option linter.unusedSimpArgs false
set_option maxRecDepth 100000
/-- the block B holds n cells -/
def HasN (B n : Nat) (t : TypeId) (w : World) : Prop := ∃ cs : Array Value, cs.size = n ∧ w.heap[B]? = some (.cells cs t (0, 0))
/-- the block B holds the cells cs -/
def Has (B : Nat) (cs : Array Value) (t : TypeId) (w : World) : Prop := w.heap[B]? = some (.cells cs t (0, 0))
theorem Has.new (cs : Array Value) (t : TypeId) (w : World) : Has w.heap.size cs t (w.alloc (.cells cs t)) := heap_alloc_last _ _
theorem Has.new1 (cs : Array Value) (t : TypeId) (w : World) (o : Obj) : Has (w.heap.size + 1) cs t ((w.alloc o).alloc (.cells cs t)) := by
  have := Has.new cs t (w.alloc o)
  rwa [show (w.alloc o).heap.size = w.heap.size + 1 by simp] at this
theorem Has.new2 (cs : Array Value) (t : TypeId) (w : World) (o o' : Obj) : Has (w.heap.size + 2) cs t (((w.alloc o).alloc o').alloc (.cells cs t)) := by
  have := Has.new cs t ((w.alloc o).alloc o')
  rwa [show ((w.alloc o).alloc o').heap.size = w.heap.size + 2 by simp] at this
theorem Has.alloc {B : Nat} {cs : Array Value} {t : TypeId} {w : World} (h : Has B cs t w) (o : Obj) : Has B cs t (w.alloc o) := heap_alloc_keep h _
theorem Has.drew {B : Nat} {cs : Array Value} {t : TypeId} {w : World} (h : Has B cs t w) : Has B cs t w.drew := h
theorem Has.kept {B : Nat} {cs : Array Value} {t : TypeId} {w w' : World} (h : Has B cs t w) (hK : Kept w w') : Has B cs t w' := hK.block h
theorem Has.other {B : Nat} {cs : Array Value} {t : TypeId} {w : World} (h : Has B cs t w) {p : Addr} (hp : B ≠ p.block) (v : Value) : Has B cs t (w.setCell p v) := heap_setCell_keep h hp v
theorem Has.set {B : Nat} {cs : Array Value} {t : TypeId} {w : World} (h : Has B cs t w) (j : Nat) (v : Value) : Has B (cs.setIfInBounds j v) t (w.setCell ⟨B, j, none⟩ v) := heap_setCell_same w B j cs t v h
theorem Has.row {B : Nat} {cs : Array Value} {t : TypeId} {w : World} (h : Has B cs t w) (cs' : Array Value) : Has B cs' t (w.setRow B cs') := setRow_heap w B cs _ t _ h
theorem Has.rowOther {B B' : Nat} {cs : Array Value} {t : TypeId} {w : World} (h : Has B cs t w) (hB : B ≠ B') (cs' : Array Value) : Has B cs t (w.setRow B' cs') := (setRow_other w B' B cs' hB).trans h
theorem Has.hasN {B : Nat} {cs : Array Value} {t : TypeId} {w : World} (h : Has B cs t w) : HasN B cs.size t w := ⟨cs, rfl, h⟩
theorem HasN.kept {B n : Nat} {t : TypeId} {w w' : World} (h : HasN B n t w) (hK : Kept w w') : HasN B n t w' := by obtain ⟨cs, e, h⟩ := h; exact ⟨cs, e, hK.block h⟩
theorem Has.cell {B : Nat} {cs : Array Value} {t : TypeId} {w : World} (h : Has B cs t w) (j : Nat) (v : Value) (hj : cs[j]? = some v) : w.cell? ⟨B, j, none⟩ = some v := (cell_of_row w B j cs t _ h).trans hj
theorem Has.free {B : Nat} {cs : Array Value} {t : TypeId} {w : World} (h : Has B cs t w) (j : Nat) : w.frozen? ⟨B, j, none⟩ = false := frozen_of_row w B j cs t h
theorem Has.lt {B : Nat} {cs : Array Value} {t : TypeId} {w : World} (h : Has B cs t w) : B < w.heap.size := lt_of_block h
theorem Has.below {B : Nat} {cs : Array Value} {t : TypeId} {w w' : World} (h : Has B cs t w) (hb : Below w.heap.size w w') : Has B cs t w' := (hb.block B h.lt).trans h
theorem Bel.drewN {N : Nat} {a b : World} (h : Below N a b) (n : Nat) : Below N a (b.drewN n) := ⟨h.os, h.tape, h.output, h.size, h.block⟩
theorem Has.range {B : Nat} {cs : Array Value} {t : TypeId} {w : World} (h : Has B cs t w) (o n : Nat) : w.rangeAt B o (cs.extract o (o + n)).toList := World.rangeAt_of_block h o n
theorem Kept.row {a b : World} (h : Kept a b) {B : Nat} (hB : a.heap.size ≤ B) (cs : Array Value) : Kept a (b.setRow B cs) := by
  refine ⟨⟨h.below.os, h.below.tape, h.below.output, ?_, ?_⟩, ?_⟩
  · simp [World.setRow]; exact h.below.size
  · intro k hk
    rw [setRow_other b B k cs (by omega)]; exact h.below.block k hk
  · intro x
    rw [← h.froze x]
    simp only [World.frozen?, World.setRow, Array.getElem?_modify]
    by_cases e : B = x.block
    · subst e
      simp only [if_true]
      generalize b.heap[x.block]? = o
      cases o with
      | none => rfl
      | some o => cases o <;> rfl
    · simp [e]
section
variable {P : Program} {ops : Array Oper} {rest : List Oper} {o : Oper} {a : Act} {Q : Exit → Act → World → Prop}
/-- a whole row out of a block that is known -/
theorem load_has {w : World} (hgd : o.guard = none) (ty : TypeId) (x : Operand) (ho : o.op = .load ty x) (g : Nat) (hx : a.eval x = .pointer (some ⟨g, 0, none⟩)) {t : TypeId} {cs : Array Value} {d : TypeDesc} (hg : Has g cs t w)
    (hu : P.underlying ty = some d) (hd : (match d with | .struct _ | .array _ _ => true | _ => false) = true) (hi : (P.info? ty).map (·.size) = some cs.size)
    (h : wpList P ops Q rest (a.put o.dst (.agg cs)) w) : wpList P ops Q (o :: rest) a w := wpList_load_row hgd ty x ho g hx t cs (0, 0) d hg hu hd hi h
/-- a part of a row -/
theorem load_part {w : World} (hgd : o.guard = none) (ty : TypeId) (x : Operand) (ho : o.op = .load ty x) (g j : Nat) (hx : a.eval x = .pointer (some ⟨g, j, none⟩)) {t : TypeId} {cs : Array Value} (ps : Array Value) {d : TypeDesc} (hg : Has g cs t w)
    (hp : cs.extract j (j + ps.size) = ps) (hu : P.underlying ty = some d) (hd : d.isRow = true) (hi : (P.info? ty).map (·.size) = some ps.size)
    (h : wpList P ops Q rest (a.put o.dst (.agg ps)) w) : wpList P ops Q (o :: rest) a w :=
  wpList_load_mid hgd ty x ho g j hx ps.toList d (by have := hg.range j ps.size; rw [hp] at this; exact this) hu hd (by simpa using hi) (by simpa using h)
/-- into the block that was made last -/
theorem store_last {w : World} (hgd : o.guard = none) (ty : TypeId) (x y : Operand) (ho : o.op = .store ty x y) (g : Nat) (cells : Array Value) (hx : a.eval x = .pointer (some ⟨g, 0, none⟩)) (hy : a.eval y = .agg cells)
    {t : TypeId} {old : Array Value} (hg : g = w.heap.size) (hi : (P.info? ty).map (·.size) = some cells.size) (hold : old.size = cells.size) (h1 : cells.all (·.oneCell') = true)
    (h : wpList P ops Q rest (a.put o.dst undef) (w.alloc (.cells cells t))) : wpList P ops Q (o :: rest) a (w.alloc (.cells old t)) := by
  subst hg
  exact wpList_store_row hgd ty x y ho _ cells hx hy t old (heap_alloc_last _ _) hi hold h1 (by rw [World.setRow_alloc_new]; exact h)
/-- into a block that is known -/
theorem store_has {w : World} (hgd : o.guard = none) (ty : TypeId) (x y : Operand) (ho : o.op = .store ty x y) (g : Nat) (cells : Array Value) (hx : a.eval x = .pointer (some ⟨g, 0, none⟩)) (hy : a.eval y = .agg cells)
    {t : TypeId} {old : Array Value} (hg : Has g old t w) (hi : (P.info? ty).map (·.size) = some cells.size) (hold : old.size = cells.size) (h1 : cells.all (·.oneCell') = true)
    (h : wpList P ops Q rest (a.put o.dst undef) (w.setRow g cells)) : wpList P ops Q (o :: rest) a w :=
  wpList_store_row hgd ty x y ho g cells hx hy t old hg hi hold h1 h
/-- the zero cells of a struct's type, and the places of its fields -/
def shapeOf (P : Program) (t : TypeId) : Option (Array Value × List (Nat × Nat)) :=
  match P.info? t, P.underlying t with
  | some it, some (.struct fields) =>
    match it.zero, fields.toList.mapM (fun f => (P.info? f.type).map fun i => (f.offset, i.size)) with
    | some z, some places => some (z.cells, places)
    | _, _ => none
  | _, _ => none
theorem built_of {P : Program} {t : TypeId} {z : Array Value} {places : List (Nat × Nat)} (h : shapeOf P t = some (z, places)) (parts : List (Nat × Value)) :
    P.built t parts = Instr.fill (places.toArray[·]?) z parts := by
  unfold shapeOf at h
  unfold Program.built
  cases h1 : P.info? t with
  | none => simp [h1] at h
  | some it =>
    cases h2 : P.underlying t with
    | none => simp [h1, h2] at h
    | some d =>
      cases d <;> simp only [h1, h2] at h ⊢ <;> try (cases h; done)
      split at h
      · rename_i z' p' e1 e2
        simp only [Option.some.injEq, Prod.mk.injEq] at h
        obtain ⟨rfl, rfl⟩ := h
        simp only [e1, e2]
      · cases h
/-- a struct or array put together -/
theorem build_has {w : World} (hgd : o.guard = none) (t : TypeId) (parts : Array (Nat × Operand)) (ho : o.op = .build t parts) (cs : Array Value)
    (hf : P.built t (parts.map fun (i, x) => (i, a.eval x)).toList = some cs) (h : wpList P ops Q rest (a.put o.dst (.agg cs)) w) : wpList P ops Q (o :: rest) a w :=
  wpList_build hgd t parts ho (by rw [hf]; rfl) (by rw [hf]; exact h)
/-- the same two as a drawn region asks them -/
theorem exec_load_has {w : World} (ty : TypeId) (x : Operand) (ho : o.op = .load ty x) (g : Nat) (hx : a.eval x = .pointer (some ⟨g, 0, none⟩)) {t : TypeId} {cs : Array Value} {d : TypeDesc} (hg : Has g cs t w)
    (hu : P.underlying ty = some d) (hd : (match d with | .struct _ | .array _ _ => true | _ => false) = true) (hi : (P.info? ty).map (·.size) = some cs.size) :
    (execOp a.eval o).run P w = .ok (.value (.agg cs)) w := by
  unfold execOp
  simp only [ho, hx, Instr.loadAt, Instr.sureAddr, Sem.run_bind, Sem.run_pure, Result.andThen_ok, run_loadVar_row w g t ty cs (0, 0) d hg hu hd hi]
theorem exec_build {w : World} (t : TypeId) (parts : Array (Nat × Operand)) (ho : o.op = .build t parts) (cs : Array Value)
    (hf : P.built t (parts.map fun (i, x) => (i, a.eval x)).toList = some cs) : (execOp a.eval o).run P w = .ok (.value (.agg cs)) w := by
  unfold execOp
  simp only [ho, Sem.run_bind, Sem.run_pure, Result.andThen_ok, run_build w t _ cs hf]
theorem run_sizeOf {P : Program} {e : TypeId} {m : Nat} (hs : (P.info? e).map (·.size) = some m) (w : World) : (sizeOf e).run P w = .ok m w := by
  cases hq : P.info? e with
  | none => simp [hq] at hs
  | some i =>
    have : i.size = m := by simpa [hq] using hs
    simp [sizeOf, typeInfo, hq, this]
theorem run_isAgg {P : Program} {e : TypeId} {d : TypeDesc} (he : P.underlying e = some d) (w : World) : (isAgg e).run P w = .ok d.isRow w := by
  unfold isAgg
  rw [Sem.run_bind, run_underlying he w]
  cases d <;> simp [TypeDesc.isRow]
/-- an array by value, at an index: a cell -/
theorem run_index_cell {P : Program} {t e : TypeId} {n : Nat} {d : TypeDesc} {cs : Array Value} {k : IntKind} {i : Int} {v : Value} (hu : P.underlying t = some (.array n e)) (h0 : 0 ≤ i) (h1 : i < n) (he : P.underlying e = some d) (hd : d.isRow = false)
    (hs : (P.info? e).map (·.size) = some 1) (hc : cs[i.toNat]? = some v) (w : World) : (Instr.index t (.agg cs) (.int k i)).run P w = .ok v w := by
  have ha := run_isAgg he w
  rw [hd] at ha
  simp [Instr.index, asIntOf, Sem.run_bind, run_underlying hu, h0, h1, run_sizeOf hs, part, ha, hc]
/-- an array by value, at an index: a row -/
theorem run_index_row {P : Program} {t e : TypeId} {n m : Nat} {d : TypeDesc} {cs ps : Array Value} {k : IntKind} {i : Int} (hu : P.underlying t = some (.array n e)) (h0 : 0 ≤ i) (h1 : i < n) (he : P.underlying e = some d) (hd : d.isRow = true)
    (hs : (P.info? e).map (·.size) = some m) (hc : cs.extract (i.toNat * m) (i.toNat * m + m) = ps) (w : World) : (Instr.index t (.agg cs) (.int k i)).run P w = .ok (.agg ps) w := by
  have ha := run_isAgg he w
  rw [hd] at ha
  simp [Instr.index, asIntOf, Sem.run_bind, run_underlying hu, h0, h1, run_sizeOf hs, part, ha, hc]
theorem index_cell {w : World} (hgd : o.guard = none) (t : TypeId) (x ix : Operand) (ho : o.op = .index t x ix) (cs : Array Value) (k : IntKind) (i : Int) (hx : a.eval x = .agg cs) (hix : a.eval ix = .int k i) {e : TypeId} {n : Nat} {d : TypeDesc} {v : Value}
    (hu : P.underlying t = some (.array n e)) (h0 : 0 ≤ i) (h1 : i < n) (he : P.underlying e = some d) (hd : d.isRow = false) (hs : (P.info? e).map (·.size) = some 1) (hc : cs[i.toNat]? = some v)
    (h : wpList P ops Q rest (a.put o.dst v) w) : wpList P ops Q (o :: rest) a w :=
  wpList_plain hgd fun _ hK => by
    unfold Oper.wp execOp
    simp only [ho, hx, hix, Sem.run_bind, run_index_cell hu h0 h1 he hd hs hc, Result.andThen_ok, Sem.run_pure]
    exact hK _ _ h
theorem index_row {w : World} (hgd : o.guard = none) (t : TypeId) (x ix : Operand) (ho : o.op = .index t x ix) (cs : Array Value) (k : IntKind) (i : Int) (hx : a.eval x = .agg cs) (hix : a.eval ix = .int k i) {e : TypeId} {n m : Nat} {d : TypeDesc} {ps : Array Value}
    (hu : P.underlying t = some (.array n e)) (h0 : 0 ≤ i) (h1 : i < n) (he : P.underlying e = some d) (hd : d.isRow = true) (hs : (P.info? e).map (·.size) = some m) (hc : cs.extract (i.toNat * m) (i.toNat * m + m) = ps)
    (h : wpList P ops Q rest (a.put o.dst (.agg ps)) w) : wpList P ops Q (o :: rest) a w :=
  wpList_plain hgd fun _ hK => by
    unfold Oper.wp execOp
    simp only [ho, hx, hix, Sem.run_bind, run_index_row hu h0 h1 he hd hs hc, Result.andThen_ok, Sem.run_pure]
    exact hK _ _ h
theorem results_has {fn : Func} {p : Tmp} {ty : TypeId} (h : fn.results = #[.cell p ty]) {tmps : Array Value} {w : World} (g : Nat) {t : TypeId} {cs : Array Value} {d : TypeDesc}
    (hp : tmps.getD p undef = .pointer (some ⟨g, 0, none⟩)) (hg : Has g cs t w)
    (hu : P.underlying ty = some d) (hd : (match d with | .struct _ | .array _ _ => true | _ => false) = true) (hi : (P.info? ty).map (·.size) = some cs.size) :
    (results fn tmps).run P w = .ok (.agg cs) w := results_cell_row h tmps w g t cs (0, 0) d hp hg hu hd hi
theorem results_has2 {fn : Func} {p q : Tmp} {ty : TypeId} (h : fn.results = #[.cell p ty, .tmp q]) {tmps : Array Value} {w : World} (g : Nat) {t : TypeId} {cs : Array Value} {d : TypeDesc}
    (hp : tmps.getD p undef = .pointer (some ⟨g, 0, none⟩)) (hg : Has g cs t w)
    (hu : P.underlying ty = some d) (hd : (match d with | .struct _ | .array _ _ => true | _ => false) = true) (hi : (P.info? ty).map (·.size) = some cs.size) :
    (results fn tmps).run P w = .ok (.tuple #[.agg cs, tmps.getD q undef]) w := by
  have hp' : tmps[p]?.getD undef = .pointer (some ⟨g, 0, none⟩) := by simpa using hp
  simp [results, h, hp', asAddr, run_loadVar_row w g t ty cs (0, 0) d hg hu hd hi]
theorem results_has3 {fn : Func} {p q r : Tmp} {ty : TypeId} (h : fn.results = #[.cell p ty, .tmp q, .tmp r]) {tmps : Array Value} {w : World} (g : Nat) {t : TypeId} {cs : Array Value} {d : TypeDesc}
    (hp : tmps.getD p undef = .pointer (some ⟨g, 0, none⟩)) (hg : Has g cs t w)
    (hu : P.underlying ty = some d) (hd : (match d with | .struct _ | .array _ _ => true | _ => false) = true) (hi : (P.info? ty).map (·.size) = some cs.size) :
    (results fn tmps).run P w = .ok (.tuple #[.agg cs, tmps.getD q undef, tmps.getD r undef]) w := by
  have hp' : tmps[p]?.getD undef = .pointer (some ⟨g, 0, none⟩) := by simpa using hp
  simp [results, h, hp', asAddr, run_loadVar_row w g t ty cs (0, 0) d hg hu hd hi]
end
end Go.Proofs.YtpbgniffjlcbhaaDoor
