/-
  Data that came in, opened to any depth: numbers, bools, strings, structs, arrays, slices; what a reading of it says of the memory. No Go text is named here.
-/
import Derived.ChangeSame
import Derived.WideShapes
import Derived.OpenShut
import Derived.RowKit
import Derived.Carry
import Derived.Below
namespace Go.Proofs.YtpbgniffjlcbhaaDoor
open Go.ChangeShapes Go.WideShapes Go.RowKit
set_option linter.unusedVariables false
set_option linter.unusedSimpArgs false
set_option maxRecDepth 100000
/-- the shape of a type -/
inductive Sh where
  | int (k : IntKind)
  | bool
  | str
  | nil
  | cons (f r : Sh)
  | rep (n : Nat) (e : Sh)
  | sl (e : Sh)
/-- how many cells -/
def Sh.size : Sh → Nat
  | .int _ | .bool | .str | .sl _ => 1
  | .nil => 0
  | .cons f r => f.size + r.size
  | .rep n e => n * e.size
/-- a struct's fields, one behind the other -/
def shFields (P : Program) (g : TypeId → Option Sh) : Nat → List Field → Option Sh
  | _, [] => some .nil
  | off, f :: fs =>
    match g f.type with
    | some s => if f.offset = off ∧ P.cellsOf f.type = s.size then (shFields P g (off + s.size) fs).map (Sh.cons s) else none
    | none => none
def shapeAt (P : Program) : Nat → TypeId → Option Sh
  | 0, _ => none
  | n + 1, t =>
    match P.underlying t with
    | some (.int k) => some (.int k)
    | some .bool => some .bool
    | some .string => some .str
    | some (.struct fs) => match shFields P (shapeAt P n) 0 fs.toList with
      | some s => if P.cellsOf t = s.size then some s else none
      | none => none
    | some (.array m e) => match shapeAt P n e with
      | some s => if P.cellsOf e = s.size ∧ P.cellsOf t = m * s.size then some (.rep m s) else none
      | none => none
    | some (.slice e) => match shapeAt P n e with
      | some s => if P.cellsOf e = s.size then some (.sl s) else none
      | none => none
    | _ => none
/-- what the cells hold, and what lies behind them -/
def Sees (w : World) : Sh → List Value → Prop
  | .int k, cs => ∃ a, cs = [.int k a] ∧ (Lit.int k a).wf = true
  | .bool, cs => ∃ b, cs = [.bool b]
  | .str, cs => ∃ s, cs = [.string s] ∧ s.size ≤ maxLen
  | .nil, cs => cs = []
  | .cons f r, cs => ∃ c d, cs = c ++ d ∧ c.length = f.size ∧ Sees w f c ∧ Sees w r d
  | .rep n e, cs => cs.length = n * e.size ∧ ∀ i, i < n → Sees w e ((cs.drop (i * e.size)).take e.size)
  | .sl e, cs => cs = [.slice none 0 0] ∨ ∃ (a : Addr) (len cap : Nat), cs = [.slice (some a) len cap] ∧ len ≤ cap ∧ cap ≤ maxLen ∧ ∀ i, i < len → ∃ es, w.cells? 0 (a.add (i * e.size)) e.size = some es ∧ Sees w e es
section
variable {H : Type} {enc : TypeId × Value → H} {P : Program} {w : World} {spare : Nat → Bool} {held : Bool}
theorem sees_fields {m : Nat} {g : TypeId → Option Sh} (ih : ∀ t s, g t = some s → ∀ cs (x : DataW H × List MemPlace), DataW.trod enc P w 0 spare held m t cs = some x → Sees w s cs) :
    ∀ (fs : List Field) (off : Nat) (s : Sh) (cs : List Value) (ys : List (DataW H × List MemPlace)), shFields P g off fs = some s → (cs.drop off).length = s.size →
      fs.mapM (fun f => DataW.trod enc P w 0 spare held m f.type ((cs.drop f.offset).take (P.cellsOf f.type))) = some ys → Sees w s (cs.drop off)
  | [], off, s, cs, ys, hk, hl, h => by
    simp [shFields] at hk
    subst hk
    exact List.length_eq_zero_iff.1 hl
  | f :: fs, off, s, cs, ys, hk, hl, h => by
    unfold shFields at hk
    split at hk
    · rename_i s0 hg
      split at hk
      · rename_i hc
        simp only [Option.map_eq_some_iff] at hk
        obtain ⟨r, hr, rfl⟩ := hk
        rw [List.mapM_cons] at h
        simp only [bind, Option.bind_eq_some_iff, pure, Option.some.injEq] at h
        obtain ⟨y, hy, ys', hys, rfl⟩ := h
        have h0 := ih _ _ hg _ _ hy
        rw [hc.1, hc.2] at h0
        have hl2 : (cs.drop off).length = s0.size + r.size := hl
        have hl' : (cs.drop (off + s0.size)).length = r.size := by
          rw [← List.drop_drop, List.length_drop, hl2]; omega
        refine ⟨(cs.drop off).take s0.size, (cs.drop off).drop s0.size, (List.take_append_drop _ _).symm, ?_, h0, ?_⟩
        · rw [List.length_take, hl2]; omega
        · rw [List.drop_drop]
          exact sees_fields ih fs (off + s0.size) r cs ys' hr hl' hys
      · cases hk
    · cases hk
/-- a reading says what is seen -/
theorem sees_of : ∀ (n : Nat) (t : TypeId) (s : Sh), shapeAt P n t = some s → ∀ (fuel : Nat) (cs : List Value) (x : DataW H × List MemPlace), DataW.trod enc P w 0 spare held fuel t cs = some x → Sees w s cs
  | 0, t, s, h, _, _, _, _ => by simp [shapeAt] at h
  | n + 1, t, s, h, fuel, cs, x, hx => by
    cases fuel with
    | zero => simp [DataW.trod] at hx
    | succ m =>
      unfold shapeAt at h
      split at h
      · rename_i k hu
        simp only [Option.some.injEq] at h; subst h
        obtain ⟨a, rfl, _, wa⟩ := DataW.trod_int hu hx
        exact ⟨a, rfl, wa⟩
      · rename_i hu
        simp only [Option.some.injEq] at h; subst h
        obtain ⟨b, rfl, _⟩ := DataW.trod_bool hu hx
        exact ⟨b, rfl⟩
      · rename_i hu
        simp only [Option.some.injEq] at h; subst h
        rw [DataW.trod_step] at hx
        unfold DataW.trodStep at hx
        rw [hu] at hx
        split at hx <;> simp_all
        exact ⟨_, rfl, hx.1⟩
      · rename_i fs hu
        split at h
        · rename_i s0 hk
          split at h
          · rename_i hc
            simp only [Option.some.injEq] at h; subst h
            rw [DataW.trod_step] at hx
            unfold DataW.trodStep at hx
            simp only [hu] at hx
            split at hx
            · rename_i hlen
              simp only [Option.map_eq_some_iff] at hx
              obtain ⟨ys, hys, rfl⟩ := hx
              have := sees_fields (fun t s hg cs x hx => sees_of n t s hg m cs x hx) fs.toList 0 s0 cs ys hk (by rw [List.drop_zero, hlen, hc]) hys
              rw [List.drop_zero] at this
              exact this
            · cases hx
          · cases h
        · cases h
      · rename_i q e hu
        split at h
        · rename_i s0 hk
          split at h
          · rename_i hc
            simp only [Option.some.injEq] at h; subst h
            rw [DataW.trod_step] at hx
            unfold DataW.trodStep at hx
            simp only [hu] at hx
            split at hx
            · rename_i hlen
              simp only [Option.map_eq_some_iff] at hx
              obtain ⟨ys, hys, rfl⟩ := hx
              rw [hc.1] at hys
              refine ⟨by rw [hlen, hc.2], fun i hi => ?_⟩
              have := mapM_some_get hys i i (by simp [hi])
              obtain ⟨y, hy⟩ : ∃ y, ys[i]? = some y := by
                have hl := mapM_some_length hys
                exact ⟨ys[i]'(by rw [hl]; simpa using hi), List.getElem?_eq_getElem _⟩
              rw [hy] at this
              exact sees_of n e s0 hk m _ _ this
            · cases hx
          · cases h
        · cases h
      · rename_i e hu
        split at h
        · rename_i s0 hk
          split at h
          · rename_i hc
            simp only [Option.some.injEq] at h; subst h
            rcases DataW.trod_slice hu hx with ⟨h0, _⟩ | ⟨a, len, cap, elems, rest, q, hq, hcs, _, _, hl, hm, hlen, hel, _⟩
            · exact Or.inl h0
            · refine Or.inr ⟨a, len, cap, hcs, hl, hm, fun i hi => ?_⟩
              have he := hel i hi
              obtain ⟨y, hy⟩ : ∃ y, elems[i]? = some y := ⟨elems[i]'(by omega), List.getElem?_eq_getElem _⟩
              rw [hy, Option.bind_eq_some_iff] at he
              obtain ⟨es, h1, h2⟩ := he
              rw [hc] at h1
              exact ⟨es, h1, sees_of n e s0 hk q es y h2⟩
          · cases h
        · cases h
      · cases h
theorem open_sees {n : Nat} {t : TypeId} {s : Sh} {v : Value} {d : DataW H} {p : List MemPlace} (hs : shapeAt P n t = some s) (h : DataW.Trod enc P w 0 spare held t v d p) : Sees w s v.cells.toList := by
  obtain ⟨fuel, hf⟩ := h
  exact sees_of n t s hs fuel _ _ hf
/-- a slice by its cells -/
theorem open_sl {r : Reach} {b0 n : Nat} {t e : TypeId} {s : Sh} {v : Value} {d : DataW H} {p : List MemPlace} (hu : P.underlying t = some (.slice e)) (hs : shapeAt P n t = some s) (hv : Value.okWide P w r b0 t v) (h : DataW.Trod enc P w 0 spare held t v d p) :
    ∃ A m c, v = .slice A m c ∧ Sees w s [.slice A m c] := by
  obtain ⟨A, m, c, rfl⟩ := okWide_slice hu hv
  exact ⟨A, m, c, rfl, by have := open_sees hs h; simpa [Value.cells] using this⟩
/-- a string -/
theorem open_text {r : Reach} {b0 n : Nat} {t : TypeId} {v : Value} {d : DataW H} {p : List MemPlace} (hu : P.underlying t = some .string) (hv : Value.okWide P w r b0 t v) (h : DataW.Trod enc P w 0 spare held t v d p) :
    ∃ x, v = .string x ∧ x.size ≤ maxLen := by
  have := open_sees (n := 1) (s := .str) (by simp [shapeAt, hu]) h
  obtain ⟨x, hx, hl⟩ := this
  refine ⟨x, ?_, hl⟩
  cases v <;> simp_all [Value.cells]
  · rename_i cs
    simp [Value.okWide, hu, Cell.okWide, Cell.ok] at hv
end
section
variable {w : World}
theorem cells_one {a : Addr} {es : List Value} (h : w.cells? 0 a 1 = some es) : ∃ v, es = [v] ∧ w.cell? a = some v := by
  unfold World.cells? at h
  rw [if_pos (Nat.zero_le _)] at h
  rw [show List.range 1 = [0] from rfl] at h
  simp only [List.mapM_cons, List.mapM_nil, bind, Option.bind_eq_some_iff, pure, Option.some.injEq] at h
  obtain ⟨v, hv, ys, rfl, rfl⟩ := h
  exact ⟨v, rfl, by simpa [Addr.add] using hv⟩
theorem cells_at {a : Addr} {n : Nat} {es : List Value} (h : w.cells? 0 a n = some es) : es.length = n ∧ ∀ j v, es[j]? = some v → w.cell? (a.add j) = some v := by
  unfold World.cells? at h
  rw [if_pos (Nat.zero_le _)] at h
  have hl := mapM_some_length h
  rw [List.length_range] at hl
  refine ⟨hl, fun j v hj => ?_⟩
  have hlt : j < n := by
    rcases Nat.lt_or_ge j es.length with h1 | h1
    · omega
    · rw [List.getElem?_eq_none h1] at hj; cases hj
  rw [mapM_some_get h j j (by simp [hlt]), hj]
theorem add_add (a : Addr) (i j : Nat) : (a.add i).add j = a.add (i + j) := by
  cases i with
  | zero => rw [Nat.zero_add]; rfl
  | succ i =>
    cases j with
    | zero => rfl
    | succ j =>
      show ({ a with off := a.off + (i + 1) + (j + 1), spot := none } : Addr) = { a with off := a.off + (i + 1 + (j + 1)), spot := none }
      rw [Nat.add_assoc]
theorem add_block (a : Addr) (i : Nat) : (a.add i).block = a.block := by cases i <;> rfl
/-- the cells of a slice of numbers -/
def Ints (w : World) (k : IntKind) (A : Option Addr) (n : Nat) (xs : List Int) : Prop :=
  xs.length = n ∧ (∀ x ∈ xs, (Lit.int k x).wf = true) ∧ (A = none → n = 0) ∧ ∀ ad, A = some ad → ∀ j x, xs[j]? = some x → w.cell? (ad.add j) = some (.int k x)
theorem ints_row {a : Addr} {k : IntKind} : ∀ (len : Nat), (∀ i, i < len → ∃ es, w.cells? 0 (a.add (i * 1)) 1 = some es ∧ Sees w (.int k) es) →
    ∃ xs : List Int, xs.length = len ∧ (∀ x ∈ xs, (Lit.int k x).wf = true) ∧ ∀ j x, xs[j]? = some x → w.cell? (a.add j) = some (.int k x)
  | 0, _ => ⟨[], rfl, by simp, by simp⟩
  | len + 1, h => by
    obtain ⟨xs, h1, h2, h3⟩ := ints_row len (fun i hi => h i (by omega))
    obtain ⟨es, he, hs⟩ := h len (by omega)
    obtain ⟨v, rfl, hv⟩ := cells_one he
    obtain ⟨x, hx, hw⟩ := hs
    simp only [List.cons.injEq, and_true] at hx
    subst hx
    rw [Nat.mul_one] at hv
    refine ⟨xs ++ [x], by simp [h1], ?_, ?_⟩
    · intro y hy
      rcases List.mem_append.1 hy with hy | hy
      · exact h2 y hy
      · simp at hy; subst hy; exact hw
    · intro j y hj
      by_cases hlt : j < xs.length
      · rw [List.getElem?_append_left hlt] at hj
        exact h3 j y hj
      · rw [List.getElem?_append_right (by omega)] at hj
        have hj0 : j - xs.length = 0 := by
          rcases Nat.eq_zero_or_pos (j - xs.length) with h0 | h0
          · exact h0
          · rw [List.getElem?_eq_none (by simp; omega)] at hj; cases hj
        rw [hj0] at hj
        simp at hj
        subst hj
        rw [show j = len by omega]
        exact hv
theorem sees_ints {k : IntKind} {A : Option Addr} {n c : Nat} (h : Sees w (.sl (.int k)) [.slice A n c]) : n ≤ c ∧ c ≤ maxLen ∧ ∃ xs, Ints w k A n xs := by
  rcases h with h | ⟨a, len, cap, h, hl, hm, he⟩
  · simp only [List.cons.injEq, Value.slice.injEq, and_true] at h
    obtain ⟨rfl, rfl, rfl⟩ := h
    exact ⟨Nat.le_refl _, by simp [maxLen], [], rfl, by simp, fun _ => rfl, by simp⟩
  · simp only [List.cons.injEq, Value.slice.injEq, and_true] at h
    obtain ⟨rfl, rfl, rfl⟩ := h
    obtain ⟨xs, h1, h2, h3⟩ := ints_row _ he
    exact ⟨hl, hm, xs, h1, h2, by simp, fun ad had j x hx => by cases had; exact h3 j x hx⟩
theorem Ints.lt {k : IntKind} {ad : Addr} {n j : Nat} {xs : List Int} (h : Ints w k (some ad) n xs) (hj : j < n) : ad.block < w.heap.size := by
  have hl : j < xs.length := by have := h.1; omega
  have hx : xs[j]? = some xs[j] := List.getElem?_eq_getElem hl
  have := World.block_lt_of_cell? w _ (h.2.2.2 ad rfl j _ hx)
  unfold Addr.add at this
  split at this <;> exact this
end
end Go.Proofs.YtpbgniffjlcbhaaDoor
