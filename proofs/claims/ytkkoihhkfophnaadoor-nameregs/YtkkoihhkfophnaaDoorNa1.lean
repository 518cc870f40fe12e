/-
  A map from kinds, operations and u to strings, of the call's own: its keys, what it holds (Na.Tab: over a plain list), a store, a look-up, a range over it in whatever order.
-/
import Derived.Test.YtkkoihhkfophnaaDoorRows
import Derived.Test.YtkkoihhkfophnaaDoorNaP
import Derived.Test.YtkkoihhkfophnaaDoorKit0
import Derived.Maps.RangeWalk
import Derived.DeepKeys3
import Derived.WalkKit
import Derived.Lib.Hide
namespace Go.Proofs.YtkkoihhkfophnaaDoor
open Go.RowKit Go.Maps
set_option linter.unusedVariables false
set_option linter.unusedSimpArgs false
set_option maxRecDepth 100000
abbrev Na.M := Int × Int × Bool
def Na.kv (t : Na.M) : Value := .agg #[.int .i64 t.1, .int .i64 t.2.1, .bool t.2.2]
def Na.kl (t : Na.M) : Lit := .string (keyBytes [.int .i64 t.1, .int .i64 t.2.1, .bool t.2.2])
structure Na.Wf (t : Na.M) : Prop where
  one : (Lit.int .i64 t.1).wf = true
  two : (Lit.int .i64 t.2.1).wf = true
theorem Na.wf_of {k o : Int} {u : Bool} (h1 : -9223372036854775808 ≤ k) (h2 : k ≤ 9223372036854775807) (h3 : -9223372036854775808 ≤ o) (h4 : o ≤ 9223372036854775807) : Na.Wf (k, o, u) :=
  ⟨WalkArith.wf_i64 ⟨by omega, by omega⟩, WalkArith.wf_i64 ⟨by omega, by omega⟩⟩
theorem Na.law : Keyed Tryd.prog 45 := Keyed.of_law (deep_law (m := 2) (by decide) (by kernel_rfl) (by kernel_rfl) (by kernel_rfl))
theorem Na.kv_inj {t t' : Na.M} (h : Na.kv t = Na.kv t') : t = t' := by
  obtain ⟨k, o, u⟩ := t
  obtain ⟨k', o', u'⟩ := t'
  simp only [Na.kv, Value.agg.injEq, Array.mk.injEq, List.cons.injEq, Value.int.injEq, Value.bool.injEq, true_and, and_true] at h
  rw [h.1, h.2.1, h.2.2]
theorem Na.keyType : Tryd.prog.keyType 45 = true := by kernel_rfl
theorem Na.cells : Tryd.prog.cellsOf 45 = 3 := by kernel_rfl
theorem Na.cellsI : Tryd.prog.cellsOf 3 = 1 := by kernel_rfl
theorem Na.cellsB : Tryd.prog.cellsOf 4 = 1 := by kernel_rfl
theorem Na.key {t : Na.M} (h : Na.Wf t) : keyOf Tryd.prog 45 (Na.kv t) = some (Na.kl t) := by
  obtain ⟨m, hm⟩ : ∃ m, Tryd.prog.types.size = m + 1 := ⟨Tryd.prog.types.size - 1, by kernel_rfl⟩
  have hf : (Na.kv t).formed Tryd.prog 45 = true := by
    unfold Na.kv Value.formed
    rw [Tryd.underlying45]
    simp [Na.cells]
  unfold keyOf
  rw [Tryd.underlying45]
  simp only [Na.keyType, hf, Bool.and_self, if_true]
  rw [hm]
  unfold Program.keyLits
  rw [Tryd.underlying45]
  simp [Na.kv, Value.cells, Na.cells, Na.cellsI, Na.cellsB, Program.keyLits, Tryd.underlying3, Tryd.underlying4, h.one, h.two, Na.kl]
theorem Na.kl_inj {t t' : Na.M} (h : Na.Wf t) (h' : Na.Wf t') (e : Na.kl t = Na.kl t') : t = t' := Na.kv_inj (Na.law.inj (Na.key h) (e ▸ Na.key h'))
theorem Na.kl_key (t : Na.M) : WideAt.IsKeyLit (Na.kl t) := trivial
def Na.lit (s : ByteArray) : DataW Unit := .lit (.string s.data.toList)
theorem Na.lit_inj {s s' : ByteArray} (h : Na.lit s = Na.lit s') : s = s' := by
  simp only [Na.lit, DataW.lit.injEq, Lit.string.injEq] at h
  exact ByteArray.ext (Array.ext' h)
theorem Na.elem_inv {v : Value} {y : DataW Unit × List MemPlace} (h : plainElem Tryd.prog 9 v = some y) : ∃ s, v = .string s ∧ y = (Na.lit s, []) := by
  unfold plainElem at h
  rw [Tryd.underlying9] at h
  cases v <;> simp at h
  exact ⟨_, rfl, h.2.symm⟩
/-- what a list of rows holds: the first one that fits -/
def Na.look (T : List (Na.M × ByteArray)) (t : Na.M) : Option ByteArray := (T.find? fun p => decide (p.1 = t)).map (·.2)
def Na.get (T : List (Na.M × ByteArray)) (t : Na.M) : ByteArray := (Na.look T t).getD ⟨#[]⟩
structure Na.Is (D : DataW Unit) (T : List (Na.M × ByteArray)) : Prop where
  at_ : ∀ t, Na.Wf t → ∀ z, D.atKey (Na.kl t) z = (match Na.look T t with | some s => Na.lit s | none => z)
  has : ∀ k, Maps.has D k = true → ∃ t s, Na.Wf t ∧ Na.kl t = k ∧ Na.look T t = some s
theorem Na.look_cons (t : Na.M) (s : ByteArray) (T : List (Na.M × ByteArray)) (t' : Na.M) : Na.look ((t, s) :: T) t' = if t = t' then some s else Na.look T t' := by
  unfold Na.look
  by_cases h : t = t'
  · rw [if_pos h, List.find?_cons_of_pos (by simpa using h)]; rfl
  · rw [if_neg h, List.find?_cons_of_neg (by simpa using h)]
theorem Na.Is.nil : Na.Is (.map []) [] := ⟨fun _ _ _ => rfl, fun k h => by simp [Maps.has] at h⟩
theorem Na.Is.put {D : DataW Unit} {T : List (Na.M × ByteArray)} (h : Na.Is D T) (hD : IsMap D) {t : Na.M} (ht : Na.Wf t) (s : ByteArray) : Na.Is (D.put (Na.kl t) (Na.lit s)) ((t, s) :: T) := by
  refine ⟨fun t' ht' z => ?_, fun k hk => ?_⟩
  · rw [Na.look_cons]
    by_cases e : t = t'
    · subst e
      rw [if_pos rfl, atKey_put_same hD (Na.kl_key _)]
    · rw [if_neg e, atKey_put_other (fun q => e (Na.kl_inj ht ht' q.symm)), h.at_ t' ht' z]
  · by_cases e : k = Na.kl t
    · exact ⟨t, s, ht, e.symm, by rw [Na.look_cons, if_pos rfl]⟩
    · rw [has_put_other e] at hk
      obtain ⟨t', s', h1, h2, h3⟩ := h.has k hk
      refine ⟨t', s', h1, h2, ?_⟩
      rw [Na.look_cons, if_neg (fun q => e (by rw [q, h2]))]
      exact h3
/-- block B is a map of at most n entries that holds what T says -/
def Na.Tab (B n : Nat) (T : List (Na.M × ByteArray)) (w : World) : Prop := ∃ D, w.ownsMap Tryd.prog 45 (plainElem Tryd.prog 9) B n D ∧ Na.Is D T
theorem Na.Tab.made (w : World) : Na.Tab w.heap.size 0 [] (w.alloc (.map #[] 0)) := ⟨_, World.ownsMap_made _ _ _ _, Na.Is.nil⟩
section
variable {B n : Nat} {T : List (Na.M × ByteArray)} {w w' : World}
theorem Na.Tab.lt (h : Na.Tab B n T w) : B < w.heap.size := by obtain ⟨D, h, _⟩ := h; exact h.lt
theorem Na.Tab.mono {m : Nat} (h : Na.Tab B n T w) (hm : n ≤ m) : Na.Tab B m T w := by obtain ⟨D, h, k⟩ := h; exact ⟨D, h.mono hm, k⟩
theorem Na.Tab.alloc (h : Na.Tab B n T w) (o : Obj) : Na.Tab B n T (w.alloc o) := by obtain ⟨D, h, k⟩ := h; exact ⟨D, h.alloc o, k⟩
theorem Na.Tab.drew (h : Na.Tab B n T w) : Na.Tab B n T w.drew := h
theorem Na.Tab.drewN (h : Na.Tab B n T w) (m : Nat) : Na.Tab B n T (w.drewN m) := h
theorem Na.Tab.setCell (h : Na.Tab B n T w) {a : Addr} (ha : B ≠ a.block) (v : Value) : Na.Tab B n T (w.setCell a v) := by obtain ⟨D, h, k⟩ := h; exact ⟨D, h.setCell ha v, k⟩
theorem Na.Tab.kept {row : Option Nat} (h : Na.Tab B n T w) (hg : w.grownBy w' row) (hne : some B ≠ row) : Na.Tab B n T w' := by obtain ⟨D, h, k⟩ := h; exact ⟨D, h.kept hg hne, k⟩
theorem Na.Tab.below (h : Na.Tab B n T w) (hb : Below w.heap.size w w') : Na.Tab B n T w' :=
  h.kept (row := none) ⟨hb.os, hb.tape, hb.output, hb.size, fun k hk _ => hb.block k hk⟩ (by simp)
end
section
variable {ops : Array Oper} {rest : List Oper} {o : Oper} {a : Act} {Q : Exit → Act → World → Prop} {B n : Nat} {T : List (Na.M × ByteArray)} {w : World}
/-- the run of a store -/
theorem Na.store_run (hT : Na.Tab B n T w) (hn : n < 1000) {t : Na.M} (ht : Na.Wf t) {s : ByteArray} (hs : s.size ≤ 1000) :
    ∃ w', (Instr.mapUpdate 42 (.map (some B)) (Na.kv t) (.string s)).run Tryd.prog w = .ok () w' ∧ Na.Tab B (n + 1) ((t, s) :: T) w' ∧ w.grownBy w' (some B) := by
  obtain ⟨D, h, k⟩ := hT
  obtain ⟨w', h1, h2, h3⟩ := h.update Na.law Tryd.underlying42 (by unfold maxLen; omega) (Na.key ht) (plainElem_string (s := s) Tryd.underlying9 (by unfold maxLen; omega))
  exact ⟨w', h1, ⟨_, h2, k.put h.isMap ht s⟩, h3⟩
/-- m[k] = s, at the operation -/
theorem Na.store (hg : o.guard = none) (m x v : Operand) (hop : o.op = Op.mapUpdate 42 m x v) (hm : a.eval m = .map (some B)) (hT : Na.Tab B n T w) (hn : n < 1000) (t : Na.M) (ht : Na.Wf t) (s : ByteArray) (hs : s.size ≤ 1000)
    (hx : a.eval x = Na.kv t) (hv : a.eval v = .string s) (hK : ∀ w', Na.Tab B (n + 1) ((t, s) :: T) w' → w.grownBy w' (some B) → wpList Tryd.prog ops Q rest (a.put o.dst undef) w') : wpList Tryd.prog ops Q (o :: rest) a w := by
  refine wpList_plain hg fun K' hK' => ?_
  obtain ⟨w', hrun, r1, r2⟩ := Na.store_run hT hn ht hs
  unfold Oper.wp
  simp [execOp, hop, hm, hx, hv, hrun, Result.andThen]
  exact hK' _ _ (hK w' r1 r2)
theorem Na.zeroE (w : World) : (zeroValue 9).run Tryd.prog w = .ok (.string ⟨#[]⟩) w := by kernel_rfl
/-- the run of a look-up -/
theorem Na.look_run (hT : Na.Tab B n T w) {t : Na.M} (ht : Na.Wf t) : (Instr.lookup 42 (.map (some B)) (Na.kv t) false).run Tryd.prog w = .ok (.string (Na.get T t)) w := by
  obtain ⟨D, h, k⟩ := hT
  obtain ⟨v, ps, h1, h2⟩ := h.lookup (z := .string ⟨#[]⟩) (zd := Na.lit ⟨#[]⟩) (zp := []) Na.law Tryd.underlying42 (Na.zeroE w) (plainElem_string Tryd.underlying9 (by decide)) (Na.key ht)
  obtain ⟨s, rfl, e⟩ := Na.elem_inv h2
  rw [h1]
  have e1 := congrArg Prod.fst e
  simp only [] at e1
  rw [k.at_ t ht] at e1
  have : s = Na.get T t := by
    unfold Na.get
    cases hl : Na.look T t with
    | none => rw [hl] at e1; exact (Na.lit_inj e1).symm
    | some s' => rw [hl] at e1; exact (Na.lit_inj e1).symm
  rw [this]
/-- a range over it under way, in the block R: those that have come are not s -/
def Na.Rng (B R cnt : Nat) (T : List (Na.M × ByteArray)) (s : ByteArray) (w : World) : Prop :=
  ∃ n D left, w.ranges Tryd.prog 45 (plainElem Tryd.prog 9) B R n D left cnt ∧ Na.Is D T ∧ ∀ t s', Na.Wf t → Na.look T t = some s' → left (Na.kl t) = true ∨ s' ≠ s
theorem Na.Tab.range (hT : Na.Tab B n T w) (s : ByteArray) :
    ∃ w', (Instr.range 42 (.map (some B))).run Tryd.prog w = .ok (.pointer (some ⟨w.heap.size, 0, none⟩)) w' ∧ (∃ cnt, Na.Rng B w.heap.size cnt T s w') ∧ w.grownBy w' none ∧ w'.heap.size = w.heap.size + 1 := by
  obtain ⟨D, h, k⟩ := hT
  obtain ⟨w', h1, h2, h3, h4⟩ := h.range Na.law Tryd.underlying42
  refine ⟨w', h1, ⟨_, n, D, _, h2, k, fun t s' ht hl => Or.inl ?_⟩, h3, h4⟩
  refine has_true_of_atKey (y := Na.lit s') fun z => ?_
  rw [k.at_ t ht, hl]
theorem Na.Rng.left {R cnt : Nat} {s : ByteArray} (h : Na.Rng B R cnt T s w) : w.rangeLeft B R = cnt := by
  obtain ⟨n, D, l, h, _⟩ := h
  exact h.left_eq
theorem Na.Rng.next {R cnt : Nat} {s : ByteArray} (h : Na.Rng B R cnt T s w) (ty : TypeId) :
    ((∀ t s', Na.Wf t → Na.look T t = some s' → s' ≠ s) ∧ (Instr.next (.pointer (some ⟨R, 0, none⟩)) false ty).run Tryd.prog w = .ok (.tuple #[.bool false]) w) ∨
    ∃ t s' w' cnt', Na.Wf t ∧ Na.look T t = some s' ∧ (Instr.next (.pointer (some ⟨R, 0, none⟩)) false ty).run Tryd.prog w = .ok (.tuple #[.bool true, Na.kv t, .string s']) w' ∧ (s' ≠ s → Na.Rng B R cnt' T s w') ∧ w'.rangeLeft B R < w.rangeLeft B R ∧
      w.grownBy w' (some R) ∧ w'.heap.size = w.heap.size ∧ (Instr.entry (.pointer (some ⟨R, 0, none⟩))).run Tryd.prog w' = .ok (.tuple #[Na.kv t, .string s']) w' := by
  obtain ⟨n, D, l, h, k, hl⟩ := h
  rcases h.next Na.law ty with ⟨h0, h1, h2⟩ | ⟨key, v, kl, y, w', cnt', h1, h2, h3, h4, h5, h6, h7, h8, h9, h10⟩
  · refine Or.inl ⟨fun t s' ht hs => ?_, h2⟩
    rcases hl t s' ht hs with e | e
    · rw [h1] at e; cases e
    · exact e
  · have hh : Maps.has D kl = true := has_true_of_atKey h4
    obtain ⟨t, s1, g1, rfl, g3⟩ := k.has kl hh
    have : key = Na.kv t := Na.law.inj h1 (Na.key g1)
    subst this
    obtain ⟨s', rfl, rfl⟩ := Na.elem_inv h3
    have e1 := h4 .nil
    rw [k.at_ t g1, g3] at e1
    have e2 := Na.lit_inj e1
    subst e2
    refine Or.inr ⟨t, s1, w', cnt', g1, g3, h5, fun hne => ⟨n, D, _, h6, k, fun t' s'' ht' hs' => ?_⟩, by rw [h.left_eq, h6.left_eq]; exact h7, h8, h9, h10⟩
    by_cases e : t' = t
    · subst e
      rw [g3] at hs'
      cases hs'
      exact Or.inr hne
    · rcases hl t' s'' ht' hs' with q | q
      · left
        simp only [q, Bool.true_and, Bool.not_eq_true']
        exact sameKey_ne (fun e' => e (Na.kl_inj ht' g1 e'))
      · exact Or.inr q
theorem Na.Rng.kept {R cnt : Nat} {s : ByteArray} {w' : World} {row : Option Nat} (h : Na.Rng B R cnt T s w) (hg : w.grownBy w' row) (h1 : some B ≠ row) (h2 : some R ≠ row) : Na.Rng B R cnt T s w' := by
  obtain ⟨n, D, l, h, k⟩ := h
  exact ⟨n, D, l, h.kept hg h1 h2, k⟩
end
end Go.Proofs.YtkkoihhkfophnaaDoor
