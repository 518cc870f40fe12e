/-
  Joined: Mem0, Frame2, Frame3.
-/
import Derived.Laws.CopyRow
import Derived.ChangeSame
import Derived.WideShapes
import Derived.OpenShut
import Derived.RowKit
import Derived.Carry
import Derived.Below
import Derived.Test.YtpfgmfiegnkocaaRow0
/-
  Memories as lists of words: a block that may alone have turned, slices of words, a memory's block; what stores do to them. No Go function is named here.
-/
namespace Go.Proofs.Ytpfgmfiegnkocaa
open Go.RowKit
variable {tyM : TypeId} {tlM : List Value}
set_option linter.unusedVariables false
set_option linter.unusedSimpArgs false
set_option maxRecDepth 100000
set_option maxRecDepth 100000
/-- only the block B may have turned -/
structure But (B : Nat) (w w' : World) : Prop where
  os : w'.os = w.os
  tape : w'.tape = w.tape
  output : w'.output = w.output
  size : w.heap.size ≤ w'.heap.size
  block : ∀ k, k < w.heap.size → k ≠ B → w'.heap[k]? = w.heap[k]?
  froze : ∀ a, w'.frozen? a = w.frozen? a
theorem But.refl (B : Nat) (w : World) : But B w w := ⟨rfl, rfl, rfl, Nat.le_refl _, fun _ _ _ => rfl, fun _ => rfl⟩
theorem But.trans {B : Nat} {a b c : World} (h : But B a b) (k : But B b c) : But B a c :=
  ⟨k.os.trans h.os, k.tape.trans h.tape, k.output.trans h.output, Nat.le_trans h.size k.size, fun i hi hB => (k.block i (Nat.lt_of_lt_of_le hi h.size) hB).trans (h.block i hi hB), fun x => (k.froze x).trans (h.froze x)⟩
theorem Kept.but {w w' : World} (h : Kept w w') (B : Nat) : But B w w' :=
  ⟨h.below.os, h.below.tape, h.below.output, h.below.size, fun k hk _ => h.below.block k hk, h.froze⟩
theorem But.drew {B : Nat} {a b : World} (h : But B a b) : But B a b.drew := ⟨h.os, h.tape, h.output, h.size, h.block, h.froze⟩
theorem But.drewN {B : Nat} {a b : World} (h : But B a b) (n : Nat) : But B a (b.drewN n) := ⟨h.os, h.tape, h.output, h.size, h.block, h.froze⟩
theorem But.setCell {B : Nat} {a b : World} (h : But B a b) (j : Nat) (v : Value) : But B a (b.setCell ⟨B, j, none⟩ v) :=
  h.trans ⟨rfl, rfl, rfl, by simp [World.setCell], fun k hk hB => Below.heap_setCell _ _ _ _ hB, fun x => World.frozen?_setCell _ _ _ _⟩
theorem froze_setRow (w : World) (B : Nat) (cs : Array Value) (x : Addr) : (w.setRow B cs).frozen? x = w.frozen? x := by
  simp only [World.frozen?, World.setRow, Array.getElem?_modify]
  by_cases e : B = x.block
  · subst e
    simp only [if_true]
    generalize w.heap[x.block]? = o
    cases o with
    | none => rfl
    | some o => cases o <;> rfl
  · simp [e]
theorem But.setRow {B : Nat} {a b : World} (h : But B a b) (cs : Array Value) : But B a (b.setRow B cs) :=
  h.trans ⟨rfl, rfl, rfl, by simp [World.setRow], fun k hk hB => setRow_other b B k cs hB, froze_setRow b B cs⟩
theorem But.has {B k : Nat} {cs : Array Value} {t : TypeId} {w w' : World} (h : But B w w') (hk : k ≠ B) (hh : Has k cs t w) : Has k cs t w' :=
  (h.block k hh.lt hk).trans hh
/-- what has been there since N blocks, over a step that turns a later block alone -/
theorem KeptB.but {N B : Nat} {a b c : World} (h : KeptB N a b) (k : But B b c) (hB : N ≤ B) (hN : N ≤ b.heap.size) : KeptB N a c :=
  ⟨h.below.trans ⟨k.os, k.tape, k.output, k.size, fun i hi => k.block i (by omega) (by omega)⟩, fun x => (k.froze x).trans (h.froze x)⟩
theorem KeptB.kept {N : Nat} {a b c : World} (h : KeptB N a b) (k : Kept b c) (hN : N ≤ b.heap.size) : KeptB N a c :=
  ⟨h.below.trans (k.below.mono hN), fun x => (k.froze x).trans (h.froze x)⟩
theorem But.kept {B : Nat} {a b : World} (h : But B a b) (hB : a.heap.size ≤ B) : Kept a b :=
  ⟨⟨h.os, h.tape, h.output, h.size, fun k hk => h.block k hk (by omega)⟩, h.froze⟩
/-- a step that turned a block made on the way -/
theorem Kept.thenBut {B : Nat} {a b c : World} (h : Kept a b) (k : But B b c) (hB : a.heap.size ≤ B) : Kept a c :=
  ⟨h.below.trans ⟨k.os, k.tape, k.output, k.size, fun i hi => k.block i (by have := h.size; omega) (by omega)⟩, fun x => (k.froze x).trans (h.froze x)⟩
/-- a slice of words -/
structure Ws (w : World) (A : Option Addr) (n c : Nat) (xs : List Int) : Prop where
  len : xs.length = n
  le : n ≤ c
  max : c ≤ maxLen
  nil : A = none → c = 0
  rng : ∀ x ∈ xs, 0 ≤ x ∧ x < 4294967296
  cel : ∀ ad, A = some ad → ∀ j x, xs[j]? = some x → w.cell? (ad.add j) = some (.int .u32 x)
theorem Ws.empty (w : World) : Ws w none 0 0 [] := ⟨rfl, Nat.le_refl _, by simp [maxLen], fun _ => rfl, by simp, by simp⟩
theorem Ws.lt {w : World} {ad : Addr} {n c : Nat} {xs : List Int} (h : Ws w (some ad) n c xs) (hn : 0 < n) : ad.block < w.heap.size := by
  have hl : 0 < xs.length := by have := h.len; omega
  have hx : xs[0]? = some xs[0] := List.getElem?_eq_getElem hl
  have := World.block_lt_of_cell? w _ (h.cel ad rfl 0 _ hx)
  unfold Addr.add at this
  split at this <;> exact this
theorem Ws.to {w w' : World} {A : Option Addr} {n c : Nat} {xs : List Int} (h : Ws w A n c xs) (hk : ∀ ad, A = some ad → 0 < n → w'.heap[ad.block]? = w.heap[ad.block]?) : Ws w' A n c xs :=
  ⟨h.len, h.le, h.max, h.nil, h.rng, fun ad e j x hx => by
    have hj : j < xs.length := by
      rcases Nat.lt_or_ge j xs.length with h1 | h1
      · exact h1
      · rw [List.getElem?_eq_none h1] at hx; cases hx
    rw [World.cell?_of_block (w := w) (by rw [show (ad.add j).block = ad.block by cases j <;> rfl]; exact hk ad e (by have := h.len; omega))]
    exact h.cel ad e j x hx⟩
theorem Ws.below {N : Nat} {w0 w w' : World} {A : Option Addr} {n c : Nat} {xs : List Int} (h : Ws w A n c xs) (hN : w.heap.size ≤ N) (hb : Below N w w') : Ws w' A n c xs :=
  h.to fun ad e hn => hb.block _ (by subst e; have := h.lt hn; omega)
theorem Ws.kept {w w' : World} {A : Option Addr} {n c : Nat} {xs : List Int} (h : Ws w A n c xs) (hb : Kept w w') : Ws w' A n c xs :=
  h.to fun ad e hn => hb.below.block _ (by subst e; exact h.lt hn)
theorem Ws.but {B : Nat} {w w' : World} {A : Option Addr} {n c : Nat} {xs : List Int} (h : Ws w A n c xs) (hb : But B w w') (hB : ∀ ad, A = some ad → 0 < n → ad.block ≠ B) : Ws w' A n c xs :=
  h.to fun ad e hn => hb.block _ (by subst e; exact h.lt hn) (hB ad e hn)
theorem Ws.drew {w : World} {A : Option Addr} {n c : Nat} {xs : List Int} (h : Ws w A n c xs) : Ws w.drew A n c xs := ⟨h.len, h.le, h.max, h.nil, h.rng, h.cel⟩
/-- the beginning of a slice -/
theorem Ws.take {w : World} {A : Option Addr} {n c : Nat} {xs : List Int} (h : Ws w A n c xs) (k : Nat) (hk : k ≤ n) : Ws w A k c (xs.take k) :=
  ⟨by simp [h.len]; omega, by have := h.le; omega, h.max, h.nil, fun x hx => h.rng x (List.mem_of_mem_take hx), fun ad e j x hx => h.cel ad e j x (by
    rw [List.getElem?_take] at hx
    split at hx
    · exact hx
    · cases hx)⟩
/-- the block B, of the type tyM, begins with a memory of the words ws; behind it stand the cells tlM -/
structure MemT (tyM : TypeId) (tlM : List Value) (B : Nat) (ws : List Int) (w : World) : Prop where
  len : ws.length ≤ 4096
  rng : ∀ x ∈ ws, 0 ≤ x ∧ x < 4294967296
  has : ∃ cs : Array Value, Has B cs tyM w ∧ cs.size = 4097 + tlM.length ∧ cs[4096]? = some (.int .i64 (ws.length : Int)) ∧ (∀ (j : Nat) (x : Int), ws[j]? = some x → cs[j]? = some (Value.int .u32 x)) ∧ ∀ j : Nat, cs[4097 + j]? = tlM[j]?
/-- the block B is a memory of the words ws -/
abbrev Mem (B : Nat) (ws : List Int) (w : World) : Prop := MemT 73 [] B ws w
theorem MemT.lt {B : Nat} {ws : List Int} {w : World} (h : MemT tyM tlM B ws w) : B < w.heap.size := by obtain ⟨cs, hh, _⟩ := h.has; exact hh.lt
theorem MemT.kept {B : Nat} {ws : List Int} {w w' : World} (h : MemT tyM tlM B ws w) (hK : Kept w w') : MemT tyM tlM B ws w' := by
  obtain ⟨cs, h1, h2⟩ := h.has; exact ⟨h.len, h.rng, cs, h1.kept hK, h2⟩
theorem MemT.but {B B' : Nat} {ws : List Int} {w w' : World} (h : MemT tyM tlM B ws w) (hb : But B' w w') (hB : B ≠ B') : MemT tyM tlM B ws w' := by
  obtain ⟨cs, h1, h2⟩ := h.has; exact ⟨h.len, h.rng, cs, hb.has hB h1, h2⟩
theorem MemT.drew {B : Nat} {ws : List Int} {w : World} (h : MemT tyM tlM B ws w) : MemT tyM tlM B ws w.drew := ⟨h.len, h.rng, h.has⟩
theorem MemT.count {B : Nat} {ws : List Int} {w : World} (h : MemT tyM tlM B ws w) : w.cell? ⟨B, 4096, none⟩ = some (.int .i64 (ws.length : Int)) := by
  obtain ⟨cs, h1, _, h2, _⟩ := h.has; exact h1.cell 4096 _ h2
theorem MemT.word {B : Nat} {ws : List Int} {w : World} (h : MemT tyM tlM B ws w) (j : Nat) (hj : j < ws.length) : w.cell? ⟨B, j, none⟩ = some (.int .u32 ws[j]) := by
  obtain ⟨cs, h1, _, _, h2, _⟩ := h.has; exact h1.cell j _ (h2 j _ (List.getElem?_eq_getElem hj))
theorem MemT.free {B : Nat} {ws : List Int} {w : World} (h : MemT tyM tlM B ws w) (j : Nat) : w.frozen? ⟨B, j, none⟩ = false := by
  obtain ⟨cs, h1, _⟩ := h.has; exact h1.free j
theorem mem_set {l : List Int} {j : Nat} {x y : Int} (h : y ∈ l.set j x) : y ∈ l ∨ y = x := List.mem_or_eq_of_mem_set h
theorem MemT.set {B : Nat} {ws : List Int} {w : World} (h : MemT tyM tlM B ws w) (j : Nat) (hj : j < ws.length) (x : Int) (h0 : 0 ≤ x) (h1 : x < 4294967296) : MemT tyM tlM B (ws.set j x) (w.setCell ⟨B, j, none⟩ (.int .u32 x)) := by
  obtain ⟨cs, hh, h2, h3, h4, h5⟩ := h.has
  have hl := h.len
  refine ⟨by simpa using hl, fun y hy => ?_, cs.setIfInBounds j (.int .u32 x), hh.set j _, by simpa using h2, ?_, fun k y hk => ?_, fun k => ?_⟩
  · rcases mem_set hy with hy | rfl
    · exact h.rng y hy
    · exact ⟨h0, h1⟩
  · rw [Array.getElem?_setIfInBounds_ne (by omega), h3, List.length_set]
  · rw [List.getElem?_set] at hk
    by_cases e : j = k
    · subst e
      rw [if_pos rfl, if_pos hj] at hk
      cases hk
      rw [Array.getElem?_setIfInBounds_self_of_lt (by omega)]
    · rw [if_neg e] at hk
      rw [Array.getElem?_setIfInBounds_ne e]
      exact h4 k y hk
  · rw [Array.getElem?_setIfInBounds_ne (by omega)]
    exact h5 k
theorem MemT.place {B : Nat} {ws : List Int} {w : World} (h : MemT tyM tlM B ws w) (k : Nat) (xs : List Int) (hk : k + xs.length ≤ ws.length) (hx : ∀ x ∈ xs, 0 ≤ x ∧ x < 4294967296) (cs : Array Value) (hh : Has B cs tyM w)
    (hs : cs.size = 4097 + tlM.length) (h3 : cs[4096]? = some (.int .i64 (ws.length : Int))) (h4 : ∀ (j : Nat) (x : Int), ws[j]? = some x → cs[j]? = some (Value.int .u32 x)) (h5 : ∀ j : Nat, cs[4097 + j]? = tlM[j]?) :
    MemT tyM tlM B (ws.take k ++ xs ++ ws.drop (k + xs.length)) (w.setRow B (cs.toList.take k ++ xs.map (Value.int .u32) ++ cs.toList.drop (k + (xs.map (Value.int .u32)).length)).toArray) := by
  have hl := h.len
  have hlen : (ws.take k ++ xs ++ ws.drop (k + xs.length)).length = ws.length := by simp; omega
  refine ⟨by omega, fun y hy => ?_, _, hh.row _, by simp; omega, ?_, fun j y hj => ?_, fun j => ?_⟩
  · rcases List.mem_append.1 hy with hy | hy
    · rcases List.mem_append.1 hy with hy | hy
      · exact h.rng y (List.mem_of_mem_take hy)
      · exact hx y hy
    · exact h.rng y (List.mem_of_mem_drop hy)
  · rw [hlen]
    simp only [List.getElem?_toArray]
    rw [List.getElem?_append_right (by simp; omega)]
    simp only [List.length_append, List.length_take, List.length_map, List.getElem?_drop, Array.length_toList]
    rw [show k + xs.length + (4096 - (min k cs.size + xs.length)) = 4096 by omega]
    simpa using h3
  · simp only [List.getElem?_toArray]
    by_cases c1 : j < k
    · rw [List.append_assoc, List.getElem?_append_left (by simp; omega), List.getElem?_take, if_pos c1] at hj ⊢
      simpa using h4 j y hj
    · by_cases c2 : j < k + xs.length
      · rw [List.getElem?_append_left (by simp; omega), List.getElem?_append_right (by simp; omega)] at hj ⊢
        rw [show j - (List.take k ws).length = j - k by simp; omega] at hj
        rw [show j - (List.take k cs.toList).length = j - k by simp; omega, List.getElem?_map, hj]
        rfl
      · rw [List.getElem?_append_right (by simp; omega), List.getElem?_drop] at hj ⊢
        rw [show k + xs.length + (j - (List.take k ws ++ xs).length) = j by simp; omega] at hj
        rw [show k + (List.map (Value.int .u32) xs).length + (j - (List.take k cs.toList ++ List.map (Value.int .u32) xs).length) = j by simp; omega]
        simpa using h4 j y hj
  · simp only [List.getElem?_toArray]
    rw [List.getElem?_append_right (by simp; omega), List.getElem?_drop]
    rw [show k + (List.map (Value.int .u32) xs).length + (4097 + j - (List.take k cs.toList ++ List.map (Value.int .u32) xs).length) = 4097 + j by simp; omega]
    simpa using h5 j
end Go.Proofs.Ytpfgmfiegnkocaa
/-
  Data that came in, opened to any depth: numbers, bools, strings, structs, arrays, slices; what a reading of it says of the memory. No Go text is named here.
-/
namespace Go.Proofs.Ytpfgmfiegnkocaa
open Go.ChangeShapes Go.WideShapes Go.RowKit
set_option linter.unusedVariables false
set_option linter.unusedSimpArgs false
set_option maxRecDepth 100000
/-- the shape of a type -/
inductive Sh where
  | int (k : IntKind)
  | bool
  | str
  | nil
  | cons (f r : Sh)
  | rep (n : Nat) (e : Sh)
  | sl (e : Sh)
/-- how many cells -/
def Sh.size : Sh → Nat
  | .int _ | .bool | .str | .sl _ => 1
  | .nil => 0
  | .cons f r => f.size + r.size
  | .rep n e => n * e.size
/-- a struct's fields, one behind the other -/
def shFields (P : Program) (g : TypeId → Option Sh) : Nat → List Field → Option Sh
  | _, [] => some .nil
  | off, f :: fs =>
    match g f.type with
    | some s => if f.offset = off ∧ P.cellsOf f.type = s.size then (shFields P g (off + s.size) fs).map (Sh.cons s) else none
    | none => none
def shapeAt (P : Program) : Nat → TypeId → Option Sh
  | 0, _ => none
  | n + 1, t =>
    match P.underlying t with
    | some (.int k) => some (.int k)
    | some .bool => some .bool
    | some .string => some .str
    | some (.struct fs) => match shFields P (shapeAt P n) 0 fs.toList with
      | some s => if P.cellsOf t = s.size then some s else none
      | none => none
    | some (.array m e) => match shapeAt P n e with
      | some s => if P.cellsOf e = s.size ∧ P.cellsOf t = m * s.size then some (.rep m s) else none
      | none => none
    | some (.slice e) => match shapeAt P n e with
      | some s => if P.cellsOf e = s.size then some (.sl s) else none
      | none => none
    | _ => none
/-- what the cells hold, and what lies behind them -/
def Sees (w : World) : Sh → List Value → Prop
  | .int k, cs => ∃ a, cs = [.int k a] ∧ (Lit.int k a).wf = true
  | .bool, cs => ∃ b, cs = [.bool b]
  | .str, cs => ∃ s, cs = [.string s] ∧ s.size ≤ maxLen
  | .nil, cs => cs = []
  | .cons f r, cs => ∃ c d, cs = c ++ d ∧ c.length = f.size ∧ Sees w f c ∧ Sees w r d
  | .rep n e, cs => cs.length = n * e.size ∧ ∀ i, i < n → Sees w e ((cs.drop (i * e.size)).take e.size)
  | .sl e, cs => cs = [.slice none 0 0] ∨ ∃ (a : Addr) (len cap : Nat), cs = [.slice (some a) len cap] ∧ len ≤ cap ∧ cap ≤ maxLen ∧ ∀ i, i < len → ∃ es, w.cells? 0 (a.add (i * e.size)) e.size = some es ∧ Sees w e es
section
variable {H : Type} {enc : TypeId × Value → H} {P : Program} {w : World} {spare : Nat → Bool} {held : Bool}
theorem sees_fields {m : Nat} {g : TypeId → Option Sh} (ih : ∀ t s, g t = some s → ∀ cs (x : DataW H × List MemPlace), DataW.trod enc P w 0 spare held m t cs = some x → Sees w s cs) :
    ∀ (fs : List Field) (off : Nat) (s : Sh) (cs : List Value) (ys : List (DataW H × List MemPlace)), shFields P g off fs = some s → (cs.drop off).length = s.size →
      fs.mapM (fun f => DataW.trod enc P w 0 spare held m f.type ((cs.drop f.offset).take (P.cellsOf f.type))) = some ys → Sees w s (cs.drop off)
  | [], off, s, cs, ys, hk, hl, h => by
    simp [shFields] at hk
    subst hk
    exact List.length_eq_zero_iff.1 hl
  | f :: fs, off, s, cs, ys, hk, hl, h => by
    unfold shFields at hk
    split at hk
    · rename_i s0 hg
      split at hk
      · rename_i hc
        simp only [Option.map_eq_some_iff] at hk
        obtain ⟨r, hr, rfl⟩ := hk
        rw [List.mapM_cons] at h
        simp only [bind, Option.bind_eq_some_iff, pure, Option.some.injEq] at h
        obtain ⟨y, hy, ys', hys, rfl⟩ := h
        have h0 := ih _ _ hg _ _ hy
        rw [hc.1, hc.2] at h0
        have hl2 : (cs.drop off).length = s0.size + r.size := hl
        have hl' : (cs.drop (off + s0.size)).length = r.size := by
          rw [← List.drop_drop, List.length_drop, hl2]; omega
        refine ⟨(cs.drop off).take s0.size, (cs.drop off).drop s0.size, (List.take_append_drop _ _).symm, ?_, h0, ?_⟩
        · rw [List.length_take, hl2]; omega
        · rw [List.drop_drop]
          exact sees_fields ih fs (off + s0.size) r cs ys' hr hl' hys
      · cases hk
    · cases hk
/-- a reading says what is seen -/
theorem sees_of : ∀ (n : Nat) (t : TypeId) (s : Sh), shapeAt P n t = some s → ∀ (fuel : Nat) (cs : List Value) (x : DataW H × List MemPlace), DataW.trod enc P w 0 spare held fuel t cs = some x → Sees w s cs
  | 0, t, s, h, _, _, _, _ => by simp [shapeAt] at h
  | n + 1, t, s, h, fuel, cs, x, hx => by
    cases fuel with
    | zero => simp [DataW.trod] at hx
    | succ m =>
      unfold shapeAt at h
      split at h
      · rename_i k hu
        simp only [Option.some.injEq] at h; subst h
        obtain ⟨a, rfl, _, wa⟩ := DataW.trod_int hu hx
        exact ⟨a, rfl, wa⟩
      · rename_i hu
        simp only [Option.some.injEq] at h; subst h
        obtain ⟨b, rfl, _⟩ := DataW.trod_bool hu hx
        exact ⟨b, rfl⟩
      · rename_i hu
        simp only [Option.some.injEq] at h; subst h
        rw [DataW.trod_step] at hx
        unfold DataW.trodStep at hx
        rw [hu] at hx
        split at hx <;> simp_all
        exact ⟨_, rfl, hx.1⟩
      · rename_i fs hu
        split at h
        · rename_i s0 hk
          split at h
          · rename_i hc
            simp only [Option.some.injEq] at h; subst h
            rw [DataW.trod_step] at hx
            unfold DataW.trodStep at hx
            simp only [hu] at hx
            split at hx
            · rename_i hlen
              simp only [Option.map_eq_some_iff] at hx
              obtain ⟨ys, hys, rfl⟩ := hx
              have := sees_fields (fun t s hg cs x hx => sees_of n t s hg m cs x hx) fs.toList 0 s0 cs ys hk (by rw [List.drop_zero, hlen, hc]) hys
              rw [List.drop_zero] at this
              exact this
            · cases hx
          · cases h
        · cases h
      · rename_i q e hu
        split at h
        · rename_i s0 hk
          split at h
          · rename_i hc
            simp only [Option.some.injEq] at h; subst h
            rw [DataW.trod_step] at hx
            unfold DataW.trodStep at hx
            simp only [hu] at hx
            split at hx
            · rename_i hlen
              simp only [Option.map_eq_some_iff] at hx
              obtain ⟨ys, hys, rfl⟩ := hx
              rw [hc.1] at hys
              refine ⟨by rw [hlen, hc.2], fun i hi => ?_⟩
              have := mapM_some_get hys i i (by simp [hi])
              obtain ⟨y, hy⟩ : ∃ y, ys[i]? = some y := by
                have hl := mapM_some_length hys
                exact ⟨ys[i]'(by rw [hl]; simpa using hi), List.getElem?_eq_getElem _⟩
              rw [hy] at this
              exact sees_of n e s0 hk m _ _ this
            · cases hx
          · cases h
        · cases h
      · rename_i e hu
        split at h
        · rename_i s0 hk
          split at h
          · rename_i hc
            simp only [Option.some.injEq] at h; subst h
            rcases DataW.trod_slice hu hx with ⟨h0, _⟩ | ⟨a, len, cap, elems, rest, q, hq, hcs, _, _, hl, hm, hlen, hel, _⟩
            · exact Or.inl h0
            · refine Or.inr ⟨a, len, cap, hcs, hl, hm, fun i hi => ?_⟩
              have he := hel i hi
              obtain ⟨y, hy⟩ : ∃ y, elems[i]? = some y := ⟨elems[i]'(by omega), List.getElem?_eq_getElem _⟩
              rw [hy, Option.bind_eq_some_iff] at he
              obtain ⟨es, h1, h2⟩ := he
              rw [hc] at h1
              exact ⟨es, h1, sees_of n e s0 hk q es y h2⟩
          · cases h
        · cases h
      · cases h
theorem open_sees {n : Nat} {t : TypeId} {s : Sh} {v : Value} {d : DataW H} {p : List MemPlace} (hs : shapeAt P n t = some s) (h : DataW.Trod enc P w 0 spare held t v d p) : Sees w s v.cells.toList := by
  obtain ⟨fuel, hf⟩ := h
  exact sees_of n t s hs fuel _ _ hf
/-- a slice by its cells -/
theorem open_sl {r : Reach} {b0 n : Nat} {t e : TypeId} {s : Sh} {v : Value} {d : DataW H} {p : List MemPlace} (hu : P.underlying t = some (.slice e)) (hs : shapeAt P n t = some s) (hv : Value.okWide P w r b0 t v) (h : DataW.Trod enc P w 0 spare held t v d p) :
    ∃ A m c, v = .slice A m c ∧ Sees w s [.slice A m c] := by
  obtain ⟨A, m, c, rfl⟩ := okWide_slice hu hv
  exact ⟨A, m, c, rfl, by have := open_sees hs h; simpa [Value.cells] using this⟩
/-- a string -/
theorem open_text {r : Reach} {b0 n : Nat} {t : TypeId} {v : Value} {d : DataW H} {p : List MemPlace} (hu : P.underlying t = some .string) (hv : Value.okWide P w r b0 t v) (h : DataW.Trod enc P w 0 spare held t v d p) :
    ∃ x, v = .string x ∧ x.size ≤ maxLen := by
  have := open_sees (n := 1) (s := .str) (by simp [shapeAt, hu]) h
  obtain ⟨x, hx, hl⟩ := this
  refine ⟨x, ?_, hl⟩
  cases v <;> simp_all [Value.cells]
  · rename_i cs
    simp [Value.okWide, hu, Cell.okWide, Cell.ok] at hv
end
section
variable {w : World}
theorem cells_one {a : Addr} {es : List Value} (h : w.cells? 0 a 1 = some es) : ∃ v, es = [v] ∧ w.cell? a = some v := by
  unfold World.cells? at h
  rw [if_pos (Nat.zero_le _)] at h
  rw [show List.range 1 = [0] from rfl] at h
  simp only [List.mapM_cons, List.mapM_nil, bind, Option.bind_eq_some_iff, pure, Option.some.injEq] at h
  obtain ⟨v, hv, ys, rfl, rfl⟩ := h
  exact ⟨v, rfl, by simpa [Addr.add] using hv⟩
theorem cells_at {a : Addr} {n : Nat} {es : List Value} (h : w.cells? 0 a n = some es) : es.length = n ∧ ∀ j v, es[j]? = some v → w.cell? (a.add j) = some v := by
  unfold World.cells? at h
  rw [if_pos (Nat.zero_le _)] at h
  have hl := mapM_some_length h
  rw [List.length_range] at hl
  refine ⟨hl, fun j v hj => ?_⟩
  have hlt : j < n := by
    rcases Nat.lt_or_ge j es.length with h1 | h1
    · omega
    · rw [List.getElem?_eq_none h1] at hj; cases hj
  rw [mapM_some_get h j j (by simp [hlt]), hj]
theorem add_add (a : Addr) (i j : Nat) : (a.add i).add j = a.add (i + j) := by
  cases i with
  | zero => rw [Nat.zero_add]; rfl
  | succ i =>
    cases j with
    | zero => rfl
    | succ j =>
      show ({ a with off := a.off + (i + 1) + (j + 1), spot := none } : Addr) = { a with off := a.off + (i + 1 + (j + 1)), spot := none }
      rw [Nat.add_assoc]
theorem add_block (a : Addr) (i : Nat) : (a.add i).block = a.block := by cases i <;> rfl
/-- the cells of a slice of numbers -/
def Ints (w : World) (k : IntKind) (A : Option Addr) (n : Nat) (xs : List Int) : Prop :=
  xs.length = n ∧ (∀ x ∈ xs, (Lit.int k x).wf = true) ∧ (A = none → n = 0) ∧ ∀ ad, A = some ad → ∀ j x, xs[j]? = some x → w.cell? (ad.add j) = some (.int k x)
theorem ints_row {a : Addr} {k : IntKind} : ∀ (len : Nat), (∀ i, i < len → ∃ es, w.cells? 0 (a.add (i * 1)) 1 = some es ∧ Sees w (.int k) es) →
    ∃ xs : List Int, xs.length = len ∧ (∀ x ∈ xs, (Lit.int k x).wf = true) ∧ ∀ j x, xs[j]? = some x → w.cell? (a.add j) = some (.int k x)
  | 0, _ => ⟨[], rfl, by simp, by simp⟩
  | len + 1, h => by
    obtain ⟨xs, h1, h2, h3⟩ := ints_row len (fun i hi => h i (by omega))
    obtain ⟨es, he, hs⟩ := h len (by omega)
    obtain ⟨v, rfl, hv⟩ := cells_one he
    obtain ⟨x, hx, hw⟩ := hs
    simp only [List.cons.injEq, and_true] at hx
    subst hx
    rw [Nat.mul_one] at hv
    refine ⟨xs ++ [x], by simp [h1], ?_, ?_⟩
    · intro y hy
      rcases List.mem_append.1 hy with hy | hy
      · exact h2 y hy
      · simp at hy; subst hy; exact hw
    · intro j y hj
      by_cases hlt : j < xs.length
      · rw [List.getElem?_append_left hlt] at hj
        exact h3 j y hj
      · rw [List.getElem?_append_right (by omega)] at hj
        have hj0 : j - xs.length = 0 := by
          rcases Nat.eq_zero_or_pos (j - xs.length) with h0 | h0
          · exact h0
          · rw [List.getElem?_eq_none (by simp; omega)] at hj; cases hj
        rw [hj0] at hj
        simp at hj
        subst hj
        rw [show j = len by omega]
        exact hv
theorem sees_ints {k : IntKind} {A : Option Addr} {n c : Nat} (h : Sees w (.sl (.int k)) [.slice A n c]) : n ≤ c ∧ c ≤ maxLen ∧ ∃ xs, Ints w k A n xs := by
  rcases h with h | ⟨a, len, cap, h, hl, hm, he⟩
  · simp only [List.cons.injEq, Value.slice.injEq, and_true] at h
    obtain ⟨rfl, rfl, rfl⟩ := h
    exact ⟨Nat.le_refl _, by simp [maxLen], [], rfl, by simp, fun _ => rfl, by simp⟩
  · simp only [List.cons.injEq, Value.slice.injEq, and_true] at h
    obtain ⟨rfl, rfl, rfl⟩ := h
    obtain ⟨xs, h1, h2, h3⟩ := ints_row _ he
    exact ⟨hl, hm, xs, h1, h2, by simp, fun ad had j x hx => by cases had; exact h3 j x hx⟩
theorem Ints.lt {k : IntKind} {ad : Addr} {n j : Nat} {xs : List Int} (h : Ints w k (some ad) n xs) (hj : j < n) : ad.block < w.heap.size := by
  have hl : j < xs.length := by have := h.1; omega
  have hx : xs[j]? = some xs[j] := List.getElem?_eq_getElem hl
  have := World.block_lt_of_cell? w _ (h.2.2.2 ad rfl j _ hx)
  unfold Addr.add at this
  split at this <;> exact this
end
end Go.Proofs.Ytpfgmfiegnkocaa
/-
  Slices that came in, as rows of words.
-/
namespace Go.Proofs.Ytpfgmfiegnkocaa
open Go.ChangeShapes Go.WideShapes Go.RowKit
set_option linter.unusedVariables false
set_option linter.unusedSimpArgs false
set_option maxRecDepth 100000
theorem wf_u32 {x : Int} (h : (Lit.int .u32 x).wf = true) : 0 ≤ x ∧ x < 4294967296 := by
  simp [Lit.wf, IntKind.bits, IntKind.signed, IntKind.min, IntKind.max] at h
  omega
theorem wf_u8 {x : Int} (h : (Lit.int .u8 x).wf = true) : 0 ≤ x ∧ x ≤ 255 := by
  simp [Lit.wf, IntKind.bits, IntKind.signed, IntKind.min, IntKind.max] at h
  omega
theorem wf_u16 {x : Int} (h : (Lit.int .u16 x).wf = true) : 0 ≤ x ∧ x ≤ 65535 := by
  simp [Lit.wf, IntKind.bits, IntKind.signed, IntKind.min, IntKind.max] at h
  omega
theorem wf_i64 {x : Int} (h : (Lit.int .i64 x).wf = true) : -9223372036854775808 ≤ x ∧ x ≤ 9223372036854775807 := by
  simp [Lit.wf, IntKind.bits, IntKind.signed, IntKind.min, IntKind.max] at h
  omega
theorem sees_ws {w : World} {A : Option Addr} {n c : Nat} (h : Sees w (.sl (.int .u32)) [.slice A n c]) : ∃ xs, Ws w A n c xs := by
  have hn : A = none → c = 0 := by
    rcases h with h | ⟨a, len, cap, h, _⟩
    · simp only [List.cons.injEq, Value.slice.injEq, and_true] at h
      exact fun _ => h.2.2
    · simp only [List.cons.injEq, Value.slice.injEq, and_true] at h
      exact fun e => by rw [h.1] at e; cases e
  obtain ⟨h1, h2, xs, i1, i2, i3, i4⟩ := sees_ints h
  exact ⟨xs, i1, h1, h2, hn, fun x hx => wf_u32 (i2 x hx), i4⟩
end Go.Proofs.Ytpfgmfiegnkocaa
