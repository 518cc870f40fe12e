/-
  Data that came in, opened to any depth, each string within the reach of the form; tokens out of their cells. No Go function is named here.
-/
import Derived.Test.YtpbgniffjlcbhaaDoorFrame3
import Derived.Test.YtpbgniffjlcbhaaDoorFrame1
import Derived.Test.YtpbgniffjlcbhaaDoorSc0
import Derived.SizedLaws
namespace Go.Proofs.YtpbgniffjlcbhaaDoor
open Go.ChangeShapes Go.WideShapes Go.RowKit
set_option linter.unusedVariables false
set_option linter.unusedSimpArgs false
set_option maxRecDepth 100000
/-- what the cells hold, and what lies behind them; strings of at most R bytes -/
def SeesB (R : Nat) (w : World) : Sh → List Value → Prop
  | .int k, cs => ∃ a, cs = [.int k a] ∧ (Lit.int k a).wf = true
  | .bool, cs => ∃ b, cs = [.bool b]
  | .str, cs => ∃ s, cs = [.string s] ∧ s.size ≤ R
  | .nil, cs => cs = []
  | .cons f r, cs => ∃ c d, cs = c ++ d ∧ c.length = f.size ∧ SeesB R w f c ∧ SeesB R w r d
  | .rep n e, cs => cs.length = n * e.size ∧ ∀ i, i < n → SeesB R w e ((cs.drop (i * e.size)).take e.size)
  | .sl e, cs => cs = [.slice none 0 0] ∨ ∃ (a : Addr) (len cap : Nat), cs = [.slice (some a) len cap] ∧ len ≤ cap ∧ cap ≤ maxLen ∧ ∀ i, i < len → ∃ es, w.cells? 0 (a.add (i * e.size)) e.size = some es ∧ SeesB R w e es
section
variable {H : Type} {enc : TypeId × Value → H} {P : Program} {w : World} {spare : Nat → Bool} {held : Bool} {R : Nat}
theorem weightsAll_mem {e : TypeId} : ∀ {ds : List (DataW H)} {d : DataW H}, d ∈ ds → ∀ n ∈ d.weights P e, n ∈ DataW.weightsAll P e ds
  | d0 :: ds, d, h, n, hn => by
    simp only [DataW.weightsAll, List.mem_append]
    rcases List.mem_cons.1 h with rfl | h
    · exact Or.inl hn
    · exact Or.inr (weightsAll_mem h n hn)
theorem seesB_fields {m : Nat} {g : TypeId → Option Sh} (ih : ∀ t s, g t = some s → ∀ cs (x : DataW H × List MemPlace), DataW.trod enc P w 0 spare held m t cs = some x → (∀ n ∈ x.1.weights P t, n ≤ R) → SeesB R w s cs) :
    ∀ (fs : List Field) (off : Nat) (s : Sh) (cs : List Value) (ys : List (DataW H × List MemPlace)), shFields P g off fs = some s → (cs.drop off).length = s.size →
      fs.mapM (fun f => DataW.trod enc P w 0 spare held m f.type ((cs.drop f.offset).take (P.cellsOf f.type))) = some ys → (∀ n ∈ DataW.weightsEach P (fs.map (·.type)) (ys.map (·.1)), n ≤ R) → SeesB R w s (cs.drop off)
  | [], off, s, cs, ys, hk, hl, h, hw => by
    simp [shFields] at hk
    subst hk
    exact List.length_eq_zero_iff.1 hl
  | f :: fs, off, s, cs, ys, hk, hl, h, hw => by
    unfold shFields at hk
    split at hk
    · rename_i s0 hg
      split at hk
      · rename_i hc
        simp only [Option.map_eq_some_iff] at hk
        obtain ⟨r, hr, rfl⟩ := hk
        rw [List.mapM_cons] at h
        simp only [bind, Option.bind_eq_some_iff, pure, Option.some.injEq] at h
        obtain ⟨y, hy, ys', hys, rfl⟩ := h
        simp only [List.map_cons, DataW.weightsEach, List.mem_append] at hw
        have h0 := ih _ _ hg _ _ hy (fun n hn => hw n (Or.inl hn))
        rw [hc.1, hc.2] at h0
        have hl2 : (cs.drop off).length = s0.size + r.size := hl
        have hl' : (cs.drop (off + s0.size)).length = r.size := by
          rw [← List.drop_drop, List.length_drop, hl2]; omega
        refine ⟨(cs.drop off).take s0.size, (cs.drop off).drop s0.size, (List.take_append_drop _ _).symm, ?_, h0, ?_⟩
        · rw [List.length_take, hl2]; omega
        · rw [List.drop_drop]
          exact seesB_fields ih fs (off + s0.size) r cs ys' hr hl' hys (fun n hn => hw n (Or.inr hn))
      · cases hk
    · cases hk
/-- a reading says what is seen -/
theorem seesB_of : ∀ (n : Nat) (t : TypeId) (s : Sh), shapeAt P n t = some s → ∀ (fuel : Nat) (cs : List Value) (x : DataW H × List MemPlace), DataW.trod enc P w 0 spare held fuel t cs = some x → (∀ n ∈ x.1.weights P t, n ≤ R) → SeesB R w s cs
  | 0, t, s, h, _, _, _, _, _ => by simp [shapeAt] at h
  | n + 1, t, s, h, fuel, cs, x, hx, hw => by
    cases fuel with
    | zero => simp [DataW.trod] at hx
    | succ m =>
      unfold shapeAt at h
      split at h
      · rename_i k hu
        simp only [Option.some.injEq] at h; subst h
        obtain ⟨a, rfl, _, wa⟩ := DataW.trod_int hu hx
        exact ⟨a, rfl, wa⟩
      · rename_i hu
        simp only [Option.some.injEq] at h; subst h
        obtain ⟨b, rfl, _⟩ := DataW.trod_bool hu hx
        exact ⟨b, rfl⟩
      · rename_i hu
        simp only [Option.some.injEq] at h; subst h
        rw [DataW.trod_step] at hx
        unfold DataW.trodStep at hx
        rw [hu] at hx
        split at hx <;> simp_all
        obtain ⟨hx1, rfl⟩ := hx
        refine ⟨_, rfl, ?_⟩
        simp only [DataW.weights, List.mem_cons, List.not_mem_nil, or_false, forall_eq] at hw
        rename_i s0 _
        simpa using hw
      · rename_i fs hu
        split at h
        · rename_i s0 hk
          split at h
          · rename_i hc
            simp only [Option.some.injEq] at h; subst h
            rw [DataW.trod_step] at hx
            unfold DataW.trodStep at hx
            simp only [hu] at hx
            split at hx
            · rename_i hlen
              simp only [Option.map_eq_some_iff] at hx
              obtain ⟨ys, hys, rfl⟩ := hx
              have := seesB_fields (fun t s hg cs x hx => seesB_of n t s hg m cs x hx) fs.toList 0 s0 cs ys hk (by rw [List.drop_zero, hlen, hc]) hys (by simpa only [DataW.weights, hu] using hw)
              rw [List.drop_zero] at this
              exact this
            · cases hx
          · cases h
        · cases h
      · rename_i q e hu
        split at h
        · rename_i s0 hk
          split at h
          · rename_i hc
            simp only [Option.some.injEq] at h; subst h
            rw [DataW.trod_step] at hx
            unfold DataW.trodStep at hx
            simp only [hu] at hx
            split at hx
            · rename_i hlen
              simp only [Option.map_eq_some_iff] at hx
              obtain ⟨ys, hys, rfl⟩ := hx
              rw [hc.1] at hys
              refine ⟨by rw [hlen, hc.2], fun i hi => ?_⟩
              have := mapM_some_get hys i i (by simp [hi])
              obtain ⟨y, hy⟩ : ∃ y, ys[i]? = some y := by
                have hl := mapM_some_length hys
                exact ⟨ys[i]'(by rw [hl]; simpa using hi), List.getElem?_eq_getElem _⟩
              rw [hy] at this
              simp only [DataW.weights, hu] at hw
              exact seesB_of n e s0 hk m _ _ this (fun n hn => hw n (weightsAll_mem (List.mem_map.2 ⟨y, List.mem_of_getElem? hy, rfl⟩) n hn))
            · cases hx
          · cases h
        · cases h
      · rename_i e hu
        split at h
        · rename_i s0 hk
          split at h
          · rename_i hc
            simp only [Option.some.injEq] at h; subst h
            rcases DataW.trod_slice hu hx with ⟨h0, _⟩ | ⟨a, len, cap, elems, rest, q, hq, hcs, hd, _, hl, hm, hlen, hel, _⟩
            · exact Or.inl h0
            · refine Or.inr ⟨a, len, cap, hcs, hl, hm, fun i hi => ?_⟩
              have he := hel i hi
              obtain ⟨y, hy⟩ : ∃ y, elems[i]? = some y := ⟨elems[i]'(by omega), List.getElem?_eq_getElem _⟩
              rw [hy, Option.bind_eq_some_iff] at he
              obtain ⟨es, h1, h2⟩ := he
              rw [hc] at h1
              refine ⟨es, h1, seesB_of n e s0 hk q es y h2 (fun n hn => hw n ?_)⟩
              rw [hd]
              simp only [DataW.weights, hu, List.mem_cons, List.mem_append]
              exact Or.inr (Or.inl (weightsAll_mem (List.mem_map.2 ⟨y, List.mem_of_getElem? hy, rfl⟩) n hn))
          · cases h
        · cases h
      · cases h
theorem open_slB {r : Reach} {b0 n : Nat} {t e : TypeId} {s : Sh} {v : Value} {d : DataW H} {p : List MemPlace} (hu : P.underlying t = some (.slice e)) (hs : shapeAt P n t = some s) (hv : Value.okWide P w r b0 t v) (h : DataW.Trod enc P w 0 spare held t v d p) (hw : ∀ n ∈ d.weights P t, n ≤ R) :
    ∃ A m c, v = .slice A m c ∧ SeesB R w s [.slice A m c] := by
  obtain ⟨A, m, c, rfl⟩ := okWide_slice hu hv
  obtain ⟨fuel, hf⟩ := h
  exact ⟨A, m, c, rfl, by have := seesB_of n t s hs fuel _ _ hf hw; simpa [Value.cells] using this⟩
end
section
variable {w : World} {R : Nat}
theorem seesB_nil {e : Sh} {A : Option Addr} {n c : Nat} (h : SeesB R w (.sl e) [.slice A n c]) : A = none → c = 0 := by
  rcases h with h | ⟨a, len, cap, h, _⟩
  · simp only [List.cons.injEq, Value.slice.injEq, and_true] at h
    exact fun _ => h.2.2
  · simp only [List.cons.injEq, Value.slice.injEq, and_true] at h
    exact fun e => by rw [h.1] at e; cases e
/-- a token -/
def tokSh : Sh := .cons (.int .i64) (.cons (.int .i64) (.cons .str (.cons (.int .u32) .nil)))
theorem toks_row {a : Addr} : ∀ (len : Nat), (∀ i, i < len → ∃ es, w.cells? 0 (a.add (i * 4)) 4 = some es ∧ SeesB R w tokSh es) →
    ∃ ys : List Sc.Tk, ys.length = len ∧ (∀ y ∈ ys, L.Byt y.t ∧ y.t.length ≤ R) ∧ ∀ j v, (Sc.cells ys)[j]? = some v → w.cell? (a.add j) = some v
  | 0, _ => ⟨[], rfl, by simp, by simp [Sc.cells]⟩
  | len + 1, h => by
    obtain ⟨xs, h1, h2, h3⟩ := toks_row len (fun i hi => h i (by omega))
    obtain ⟨es, he, hs⟩ := h len (by omega)
    obtain ⟨c, d, rfl, _, ⟨k, rfl, _⟩, hd⟩ := hs
    obtain ⟨c, d', rfl, _, ⟨p, rfl, _⟩, hd'⟩ := hd
    obtain ⟨c, d2, rfl, _, ⟨s, rfl, hsz⟩, hd2⟩ := hd'
    obtain ⟨c, d3, rfl, _, ⟨n, rfl, _⟩, hd3⟩ := hd2
    have hd3 : d3 = [] := hd3
    subst hd3
    obtain ⟨hl, hc⟩ := cells_at he
    have hy : Sc.cs ⟨k, p, L.bs s, n⟩ = [.int .i64 k, .int .i64 p, .string s, .int .u32 n] := by unfold Sc.cs; rw [L.str_bs]
    refine ⟨xs ++ [⟨k, p, L.bs s, n⟩], by simp [h1], ?_, ?_⟩
    · intro y hy
      rcases List.mem_append.1 hy with hy | hy
      · exact h2 y hy
      · simp at hy; subst hy
        exact ⟨fun x hx => L.bs_rng s x hx, by show (L.bs s).length ≤ R; rw [L.bs_len]; exact hsz⟩
    · intro j v hj
      rw [Sc.cells_append] at hj
      by_cases hlt : j < (Sc.cells xs).length
      · rw [List.getElem?_append_left hlt] at hj
        exact h3 j v hj
      · rw [List.getElem?_append_right (by omega)] at hj
        have hcl := Sc.cells_len xs
        rw [show Sc.cells [⟨k, p, L.bs s, n⟩] = [.int .i64 k, .int .i64 p, .string s, .int .u32 n] by rw [← hy]; show Sc.cs _ ++ [] = _; rw [List.append_nil]] at hj
        rw [show j = len * 4 + (j - (Sc.cells xs).length) by omega, ← add_add]
        exact hc _ v hj
theorem seesB_tok {A : Option Addr} {n c : Nat} (h : SeesB R w (.sl tokSh) [.slice A n c]) : ∃ ys, Tr w A n c ys ∧ ∀ y ∈ ys, L.Byt y.t ∧ y.t.length ≤ R := by
  have hn := seesB_nil h
  rcases h with h | ⟨a, len, cap, h, hl, hm, he⟩
  · simp only [List.cons.injEq, Value.slice.injEq, and_true] at h
    obtain ⟨rfl, rfl, rfl⟩ := h
    exact ⟨[], Tr.empty w, by simp⟩
  · simp only [List.cons.injEq, Value.slice.injEq, and_true] at h
    obtain ⟨rfl, rfl, rfl⟩ := h
    obtain ⟨ys, h1, h2, h3⟩ := toks_row _ he
    exact ⟨ys, ⟨h1, hl, hm, hn, fun ad e j v hv => by cases e; exact h3 j v hv⟩, h2⟩
end
end Go.Proofs.YtpbgniffjlcbhaaDoor
