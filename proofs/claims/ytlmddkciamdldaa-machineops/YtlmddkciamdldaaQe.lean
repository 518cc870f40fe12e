import Derived.Below
import Derived.Carry
import Derived.ChangeSame
import Derived.Deep.Cut
import Derived.Laws.Bits128
import Derived.OpenShut
import Derived.RowKit
import Derived.WideShapes
import Derived.Test.YtlmddkciamdldaaQd
/-
  The frame of a law, once for all: what is plain among the arguments, opened cell by cell; that each argument reads behind the call as it did; the row's last step. No Go text is named here.
-/
namespace Go.Proofs.Ytlmddkciamdldaa
open Go.ChangeShapes Go.WideShapes Go.RowKit
set_option linter.unusedVariables false
set_option linter.unusedSimpArgs false
set_option maxRecDepth 100000

/-- what a cell of plain data holds -/
inductive Ck where
  | int (k : IntKind)
  | bool
/-- the cells of a struct's fields, which must lie one behind the other -/
def fieldCells (P : Program) (g : TypeId → Option (List Ck)) : Nat → List Field → Option (List Ck)
  | _, [] => some []
  | off, f :: fs =>
    match g f.type with
    | some ks => if f.offset = off ∧ P.cellsOf f.type = ks.length then (fieldCells P g (off + ks.length) fs).map (ks ++ ·) else none
    | none => none
/-- the cells of a plain type: numbers and bools, structs and arrays of them -/
def plainCells (P : Program) : Nat → TypeId → Option (List Ck)
  | 0, _ => none
  | n + 1, t =>
    match P.underlying t with
    | some (.int k) => some [.int k]
    | some .bool => some [.bool]
    | some (.struct fs) => match fieldCells P (plainCells P n) 0 fs.toList with
      | some ks => if P.cellsOf t = ks.length then some ks else none
      | none => none
    | some (.array m e) => match plainCells P n e with
      | some ks => if P.cellsOf e = ks.length ∧ P.cellsOf t = m * ks.length then some (List.replicate m ks).flatten else none
      | none => none
    | _ => none
/-- the cells hold what they should -/
def Cells : List Ck → List Value → Prop
  | [], cs => cs = []
  | .int k :: ks, cs => ∃ a r, cs = .int k a :: r ∧ (Lit.int k a).wf = true ∧ Cells ks r
  | .bool :: ks, cs => ∃ b r, cs = .bool b :: r ∧ Cells ks r
theorem Cells.len : ∀ {ks : List Ck} {cs : List Value}, Cells ks cs → cs.length = ks.length
  | [], cs, h => by rw [show cs = [] from h]; rfl
  | .int k :: ks, cs, h => by obtain ⟨a, r, rfl, _, hr⟩ := h; simp [Cells.len hr]
  | .bool :: ks, cs, h => by obtain ⟨a, r, rfl, hr⟩ := h; simp [Cells.len hr]
theorem Cells.append : ∀ {ks ks' : List Ck} {cs cs' : List Value}, Cells ks cs → Cells ks' cs' → Cells (ks ++ ks') (cs ++ cs')
  | [], ks', cs, cs', h, h' => by rw [show cs = [] from h]; exact h'
  | .int k :: ks, ks', cs, cs', h, h' => by obtain ⟨a, r, rfl, hw, hr⟩ := h; exact ⟨a, r ++ cs', rfl, hw, Cells.append hr h'⟩
  | .bool :: ks, ks', cs, cs', h, h' => by obtain ⟨a, r, rfl, hr⟩ := h; exact ⟨a, r ++ cs', rfl, Cells.append hr h'⟩

section
variable {H : Type} {enc : TypeId × Value → H} {P : Program} {w : World} {base : Nat} {spare : Nat → Bool} {held : Bool}
theorem trodAll_stays (hl : laidOutB P = true) {W W' : World} {sp : Nat → Bool} : ∀ {ts : List TypeId} {vs : List Value} {ds : List (DataW H)} {ps : List MemPlace},
    DataW.TrodAll enc P W 0 (fun _ => true) true ts vs ds ps → (∀ t ∈ ts, P.readableRec t = true ∧ t < P.types.size) → (∀ p ∈ ps, W.sameAt W' p) → (∀ p ∈ ps, sp p.block = true) →
    DataW.TrodAll enc P W' 0 sp true ts vs ds ps
  | [], vs, ds, ps, h, _, _, _ => by obtain ⟨rfl, rfl, rfl⟩ := trodAll_nil h; exact trodAll_mk0
  | t :: ts, vs, ds, ps, h, ht, hsame, hs => by
    obtain ⟨v, vs', d, ds', p, q, rfl, rfl, rfl, h0, hr⟩ := trodAll_cons h
    have h1 := ht t List.mem_cons_self
    exact trodAll_cons_mk (WideElems.Trod_stays hl h1.1 h1.2 h0 (fun x hx => hsame x (List.mem_append_left _ hx)) (fun x hx => hs x (List.mem_append_left _ hx)))
      (trodAll_stays hl hr (fun t' h' => ht t' (List.mem_cons_of_mem _ h')) (fun x hx => hsame x (List.mem_append_right _ hx)) (fun x hx => hs x (List.mem_append_right _ hx)))
/-- the row's last step of a law: it answered true, and below the heap's old size nothing has turned -/
theorem post_law {f : Func} {s : ChangeSpec} {B : TypeId} {apart fresh handsOn : Bool} {W W' : World} {args : Array Value} {ds gs : List (DataW H)} {before : List MemPlace}
    (hl : laidOutB P = true) (hv : s.vars = []) (hB : P.underlying B = some .bool) (hR : f.resultTypes = #[B]) (hread : ∀ t ∈ f.params.toList, P.readableRec t = true ∧ t < P.types.size)
    (hW : DataW.Whole enc P f.params.toList s.vars apart W args.toList ds gs before)
    (hres : (s.fn H (ds ++ gs)).results = [.lit (.bool true)]) (hargs : (s.fn H (ds ++ gs)).args = ds) (hvars : (s.fn H (ds ++ gs)).vars = [])
    (hb : Below W.heap.size W W') :
    s.post enc P f apart fresh handsOn false W args (.bool true) W' := by
  have hlt : ∀ p ∈ before, p.block < W.heap.size := fun p hp => hW.lt p hp
  have hold : ∀ p ∈ before, (fun b => decide (b < W.heap.size)) p.block = true := fun p hp => by simpa using hlt p hp
  have hW0 := hW
  obtain ⟨pa, pv, hA, hV, hps, hz, hn⟩ := hW
  have hV' : gs = [] ∧ pv = [] := by
    rw [hv] at hV
    cases gs <;> simp [DataW.TrodVars] at hV
    exact ⟨rfl, hV⟩
  obtain ⟨rfl, rfl⟩ := hV'
  rw [List.append_nil] at hps
  subst hps
  have hA' : ∀ sp : Nat → Bool, (∀ p ∈ before, sp p.block = true) → DataW.TrodAll enc P W' 0 sp true f.params.toList args.toList (s.fn H (ds ++ [])).args before := fun sp hs => by
    rw [hargs]
    exact trodAll_stays hl hA hread (fun x hx => hb.same (hlt x hx)) hs
  have hres' : ∀ (b : Nat) (sp : Nat → Bool) (hd : Bool), DataW.TrodAll enc P W' b sp hd f.resultTypes.toList ((Value.bool true).resultList f.resultTypes.size) (s.fn H (ds ++ [])).results [] := fun b sp hd => by
    rw [hres, hR]; exact trodAll_cons_mk (p := []) (p' := []) (shut_bool hB _) trodAll_mk0
  have hvars' : ∀ sp : Nat → Bool, DataW.TrodVars enc P W' sp s.vars (s.fn H (ds ++ [])).vars [] := fun sp => by rw [hv, hvars]; rfl
  refine ⟨ds, [], before, [], before, [], hW0, hres' _ _ _, hA' _ hold, hvars' _, World.keptBut_mono (fun p hp => ⟨hp, Or.inr (Or.inl hp)⟩) (hb.frame (· ∈ before)), fun h => by cases h⟩
theorem mapM_rows {m : Nat} {e : TypeId} {ks : List Ck} (ih : ∀ cs (x : DataW H × List MemPlace), DataW.trod enc P w base spare held m e cs = some x → Cells ks cs ∧ x.2 = []) :
    ∀ (k : Nat) (cs : List Value) (ys : List (DataW H × List MemPlace)), cs.length = k * ks.length →
      (List.range k).mapM (fun i => DataW.trod enc P w base spare held m e ((cs.drop (i * ks.length)).take ks.length)) = some ys →
      Cells (List.replicate k ks).flatten cs ∧ ys.flatMap (·.2) = []
  | 0, cs, ys, hl, h => by
    simp at hl h
    subst hl h
    exact ⟨rfl, rfl⟩
  | k + 1, cs, ys, hl, h => by
    rw [List.range_succ_eq_map, List.mapM_cons, List.mapM_map] at h
    simp only [bind, Option.bind_eq_some_iff, pure, Option.some.injEq] at h
    obtain ⟨y, hy, ys', hys, rfl⟩ := h
    have h0 := ih _ _ hy
    have q : (fun i : Nat => DataW.trod enc P w base spare held m e ((cs.drop (i.succ * ks.length)).take ks.length)) = (fun i => DataW.trod enc P w base spare held m e (((cs.drop ks.length).drop (i * ks.length)).take ks.length)) := by
      funext i
      rw [List.drop_drop, Nat.succ_mul, Nat.add_comm]
    have hys' : (List.range k).mapM (fun i => DataW.trod enc P w base spare held m e (((cs.drop ks.length).drop (i * ks.length)).take ks.length)) = some ys' := by
      rw [← q]; exact hys
    have hr := mapM_rows ih k (cs.drop ks.length) ys' (by rw [List.length_drop, hl, Nat.succ_mul]; omega) hys'
    constructor
    · rw [List.replicate_succ, List.flatten_cons]
      have := Cells.append h0.1 hr.1
      simpa using this
    · rw [List.flatMap_cons, h0.2, hr.2]; rfl
theorem mapM_fields {m : Nat} {g : TypeId → Option (List Ck)} (ih : ∀ t ks, g t = some ks → ∀ cs (x : DataW H × List MemPlace), DataW.trod enc P w base spare held m t cs = some x → Cells ks cs ∧ x.2 = []) :
    ∀ (fs : List Field) (off : Nat) (ks : List Ck) (cs : List Value) (ys : List (DataW H × List MemPlace)), fieldCells P g off fs = some ks → (cs.drop off).length = ks.length →
      fs.mapM (fun f => DataW.trod enc P w base spare held m f.type ((cs.drop f.offset).take (P.cellsOf f.type))) = some ys →
      Cells ks (cs.drop off) ∧ ys.flatMap (·.2) = []
  | [], off, ks, cs, ys, hk, hl, h => by
    simp [fieldCells] at hk
    subst hk
    simp at h
    subst h
    exact ⟨List.length_eq_zero_iff.1 hl, rfl⟩
  | f :: fs, off, ks, cs, ys, hk, hl, h => by
    unfold fieldCells at hk
    split at hk
    · rename_i k0 hg
      split at hk
      · rename_i hc
        simp only [Option.map_eq_some_iff] at hk
        obtain ⟨rest, hrest, rfl⟩ := hk
        rw [List.mapM_cons] at h
        simp only [bind, Option.bind_eq_some_iff, pure, Option.some.injEq] at h
        obtain ⟨y, hy, ys', hys, rfl⟩ := h
        have h0 := ih _ _ hg _ _ hy
        rw [hc.1, hc.2] at h0
        have hl' : (cs.drop (off + k0.length)).length = rest.length := by
          rw [← List.drop_drop, List.length_drop, hl, List.length_append]; omega
        have hr := mapM_fields ih fs (off + k0.length) rest cs ys' hrest hl' hys
        constructor
        · have := Cells.append h0.1 hr.1
          rw [← List.drop_drop, List.take_append_drop] at this
          exact this
        · rw [List.flatMap_cons, h0.2, hr.2]; rfl
      · cases hk
    · cases hk
/-- a plain type's reading: its cells hold what they should, and it leads nowhere -/
theorem plain_cells : ∀ (n : Nat) (t : TypeId) (ks : List Ck), plainCells P n t = some ks → ∀ (fuel : Nat) (cs : List Value) (x : DataW H × List MemPlace), DataW.trod enc P w base spare held fuel t cs = some x → Cells ks cs ∧ x.2 = []
  | 0, t, ks, h, _, _, _, _ => by simp [plainCells] at h
  | n + 1, t, ks, h, fuel, cs, x, hx => by
    unfold plainCells at h
    split at h
    · rename_i k hu
      simp only [Option.some.injEq] at h; subst h
      obtain ⟨a, rfl, rfl, wa⟩ := DataW.trod_int hu hx
      exact ⟨⟨a, [], rfl, wa, rfl⟩, rfl⟩
    · rename_i hu
      simp only [Option.some.injEq] at h; subst h
      obtain ⟨b, rfl, rfl⟩ := DataW.trod_bool hu hx
      exact ⟨⟨b, [], rfl, rfl⟩, rfl⟩
    · rename_i fs hu
      split at h
      · rename_i k0 hk
        split at h
        · rename_i hc
          simp only [Option.some.injEq] at h; subst h
          cases fuel with
          | zero => simp [DataW.trod] at hx
          | succ m =>
            rw [DataW.trod_step] at hx
            unfold DataW.trodStep at hx
            simp only [hu] at hx
            split at hx
            · rename_i hlen
              simp only [Option.map_eq_some_iff] at hx
              obtain ⟨ys, hys, rfl⟩ := hx
              have := mapM_fields (fun t ks hg cs x hx => plain_cells n t ks hg m cs x hx) fs.toList 0 k0 cs ys hk (by rw [List.drop_zero, hlen, hc]) hys
              rw [List.drop_zero] at this
              exact this
            · cases hx
        · cases h
      · cases h
    · rename_i m e hu
      split at h
      · rename_i k0 hk
        split at h
        · rename_i hc
          simp only [Option.some.injEq] at h; subst h
          cases fuel with
          | zero => simp [DataW.trod] at hx
          | succ q =>
            rw [DataW.trod_step] at hx
            unfold DataW.trodStep at hx
            simp only [hu] at hx
            split at hx
            · rename_i hlen
              simp only [Option.map_eq_some_iff] at hx
              obtain ⟨ys, hys, rfl⟩ := hx
              rw [hc.1] at hys
              exact mapM_rows (fun cs x hx => plain_cells n e k0 hk q cs x hx) m cs ys (by rw [hlen, hc.2]) hys
            · cases hx
        · cases h
      · cases h
    · cases h
/-- a plain struct or array by value, opened: its cells -/
theorem open_plain {r : Reach} {b0 : Nat} {t : TypeId} {n : Nat} {ks : List Ck} {v : Value} {d : DataW H} {p : List MemPlace} (hp : plainCells P n t = some ks) (hk : (∃ fs, P.underlying t = some (.struct fs)) ∨ ∃ m e, P.underlying t = some (.array m e))
    (hv : Value.okWide P w r b0 t v) (h : DataW.Trod enc P w base spare held t v d p) :
    ∃ cs : Array Value, v = .agg cs ∧ Cells ks cs.toList ∧ p = [] := by
  have hcs : ∃ cs : Array Value, v = .agg cs := by
    rcases hk with ⟨fs, hu⟩ | ⟨m, e, hu⟩
    · simp only [Value.okWide, hu] at hv
      obtain ⟨cs, rfl, _⟩ := hv
      exact ⟨cs, rfl⟩
    · simp only [Value.okWide, hu] at hv
      obtain ⟨cs, rfl, _⟩ := hv
      exact ⟨cs, rfl⟩
  obtain ⟨cs, rfl⟩ := hcs
  obtain ⟨fuel, hf⟩ := h
  have := plain_cells n t ks hp fuel _ _ hf
  exact ⟨cs, rfl, by simpa [Value.cells] using this.1, this.2⟩
end
end Go.Proofs.Ytlmddkciamdldaa

/-
  Data that came in, opened to any depth: numbers, bools, strings, structs, arrays, slices; what a reading of it says of the memory. No Go text is named here.
-/
namespace Go.Proofs.Ytlmddkciamdldaa
open Go.ChangeShapes Go.WideShapes Go.RowKit
set_option linter.unusedVariables false
set_option linter.unusedSimpArgs false
set_option maxRecDepth 100000
/-- the shape of a type -/
inductive Sh where
  | int (k : IntKind)
  | bool
  | str
  | nil
  | cons (f r : Sh)
  | rep (n : Nat) (e : Sh)
  | sl (e : Sh)
/-- how many cells -/
def Sh.size : Sh → Nat
  | .int _ | .bool | .str | .sl _ => 1
  | .nil => 0
  | .cons f r => f.size + r.size
  | .rep n e => n * e.size
/-- a struct's fields, one behind the other -/
def shFields (P : Program) (g : TypeId → Option Sh) : Nat → List Field → Option Sh
  | _, [] => some .nil
  | off, f :: fs =>
    match g f.type with
    | some s => if f.offset = off ∧ P.cellsOf f.type = s.size then (shFields P g (off + s.size) fs).map (Sh.cons s) else none
    | none => none
def shapeAt (P : Program) : Nat → TypeId → Option Sh
  | 0, _ => none
  | n + 1, t =>
    match P.underlying t with
    | some (.int k) => some (.int k)
    | some .bool => some .bool
    | some .string => some .str
    | some (.struct fs) => match shFields P (shapeAt P n) 0 fs.toList with
      | some s => if P.cellsOf t = s.size then some s else none
      | none => none
    | some (.array m e) => match shapeAt P n e with
      | some s => if P.cellsOf e = s.size ∧ P.cellsOf t = m * s.size then some (.rep m s) else none
      | none => none
    | some (.slice e) => match shapeAt P n e with
      | some s => if P.cellsOf e = s.size then some (.sl s) else none
      | none => none
    | _ => none
/-- what the cells hold, and what lies behind them -/
def Sees (w : World) : Sh → List Value → Prop
  | .int k, cs => ∃ a, cs = [.int k a] ∧ (Lit.int k a).wf = true
  | .bool, cs => ∃ b, cs = [.bool b]
  | .str, cs => ∃ s, cs = [.string s] ∧ s.size ≤ maxLen
  | .nil, cs => cs = []
  | .cons f r, cs => ∃ c d, cs = c ++ d ∧ c.length = f.size ∧ Sees w f c ∧ Sees w r d
  | .rep n e, cs => cs.length = n * e.size ∧ ∀ i, i < n → Sees w e ((cs.drop (i * e.size)).take e.size)
  | .sl e, cs => cs = [.slice none 0 0] ∨ ∃ (a : Addr) (len cap : Nat), cs = [.slice (some a) len cap] ∧ len ≤ cap ∧ cap ≤ maxLen ∧ ∀ i, i < len → ∃ es, w.cells? 0 (a.add (i * e.size)) e.size = some es ∧ Sees w e es
section
variable {H : Type} {enc : TypeId × Value → H} {P : Program} {w : World} {spare : Nat → Bool} {held : Bool}
theorem sees_fields {m : Nat} {g : TypeId → Option Sh} (ih : ∀ t s, g t = some s → ∀ cs (x : DataW H × List MemPlace), DataW.trod enc P w 0 spare held m t cs = some x → Sees w s cs) :
    ∀ (fs : List Field) (off : Nat) (s : Sh) (cs : List Value) (ys : List (DataW H × List MemPlace)), shFields P g off fs = some s → (cs.drop off).length = s.size →
      fs.mapM (fun f => DataW.trod enc P w 0 spare held m f.type ((cs.drop f.offset).take (P.cellsOf f.type))) = some ys → Sees w s (cs.drop off)
  | [], off, s, cs, ys, hk, hl, h => by
    simp [shFields] at hk
    subst hk
    exact List.length_eq_zero_iff.1 hl
  | f :: fs, off, s, cs, ys, hk, hl, h => by
    unfold shFields at hk
    split at hk
    · rename_i s0 hg
      split at hk
      · rename_i hc
        simp only [Option.map_eq_some_iff] at hk
        obtain ⟨r, hr, rfl⟩ := hk
        rw [List.mapM_cons] at h
        simp only [bind, Option.bind_eq_some_iff, pure, Option.some.injEq] at h
        obtain ⟨y, hy, ys', hys, rfl⟩ := h
        have h0 := ih _ _ hg _ _ hy
        rw [hc.1, hc.2] at h0
        have hl2 : (cs.drop off).length = s0.size + r.size := hl
        have hl' : (cs.drop (off + s0.size)).length = r.size := by
          rw [← List.drop_drop, List.length_drop, hl2]; omega
        refine ⟨(cs.drop off).take s0.size, (cs.drop off).drop s0.size, (List.take_append_drop _ _).symm, ?_, h0, ?_⟩
        · rw [List.length_take, hl2]; omega
        · rw [List.drop_drop]
          exact sees_fields ih fs (off + s0.size) r cs ys' hr hl' hys
      · cases hk
    · cases hk
/-- a reading says what is seen -/
theorem sees_of : ∀ (n : Nat) (t : TypeId) (s : Sh), shapeAt P n t = some s → ∀ (fuel : Nat) (cs : List Value) (x : DataW H × List MemPlace), DataW.trod enc P w 0 spare held fuel t cs = some x → Sees w s cs
  | 0, t, s, h, _, _, _, _ => by simp [shapeAt] at h
  | n + 1, t, s, h, fuel, cs, x, hx => by
    cases fuel with
    | zero => simp [DataW.trod] at hx
    | succ m =>
      unfold shapeAt at h
      split at h
      · rename_i k hu
        simp only [Option.some.injEq] at h; subst h
        obtain ⟨a, rfl, _, wa⟩ := DataW.trod_int hu hx
        exact ⟨a, rfl, wa⟩
      · rename_i hu
        simp only [Option.some.injEq] at h; subst h
        obtain ⟨b, rfl, _⟩ := DataW.trod_bool hu hx
        exact ⟨b, rfl⟩
      · rename_i hu
        simp only [Option.some.injEq] at h; subst h
        rw [DataW.trod_step] at hx
        unfold DataW.trodStep at hx
        rw [hu] at hx
        split at hx <;> simp_all
        exact ⟨_, rfl, hx.1⟩
      · rename_i fs hu
        split at h
        · rename_i s0 hk
          split at h
          · rename_i hc
            simp only [Option.some.injEq] at h; subst h
            rw [DataW.trod_step] at hx
            unfold DataW.trodStep at hx
            simp only [hu] at hx
            split at hx
            · rename_i hlen
              simp only [Option.map_eq_some_iff] at hx
              obtain ⟨ys, hys, rfl⟩ := hx
              have := sees_fields (fun t s hg cs x hx => sees_of n t s hg m cs x hx) fs.toList 0 s0 cs ys hk (by rw [List.drop_zero, hlen, hc]) hys
              rw [List.drop_zero] at this
              exact this
            · cases hx
          · cases h
        · cases h
      · rename_i q e hu
        split at h
        · rename_i s0 hk
          split at h
          · rename_i hc
            simp only [Option.some.injEq] at h; subst h
            rw [DataW.trod_step] at hx
            unfold DataW.trodStep at hx
            simp only [hu] at hx
            split at hx
            · rename_i hlen
              simp only [Option.map_eq_some_iff] at hx
              obtain ⟨ys, hys, rfl⟩ := hx
              rw [hc.1] at hys
              refine ⟨by rw [hlen, hc.2], fun i hi => ?_⟩
              have := mapM_some_get hys i i (by simp [hi])
              obtain ⟨y, hy⟩ : ∃ y, ys[i]? = some y := by
                have hl := mapM_some_length hys
                exact ⟨ys[i]'(by rw [hl]; simpa using hi), List.getElem?_eq_getElem _⟩
              rw [hy] at this
              exact sees_of n e s0 hk m _ _ this
            · cases hx
          · cases h
        · cases h
      · rename_i e hu
        split at h
        · rename_i s0 hk
          split at h
          · rename_i hc
            simp only [Option.some.injEq] at h; subst h
            rcases DataW.trod_slice hu hx with ⟨h0, _⟩ | ⟨a, len, cap, elems, rest, q, hq, hcs, _, _, hl, hm, hlen, hel, _⟩
            · exact Or.inl h0
            · refine Or.inr ⟨a, len, cap, hcs, hl, hm, fun i hi => ?_⟩
              have he := hel i hi
              obtain ⟨y, hy⟩ : ∃ y, elems[i]? = some y := ⟨elems[i]'(by omega), List.getElem?_eq_getElem _⟩
              rw [hy, Option.bind_eq_some_iff] at he
              obtain ⟨es, h1, h2⟩ := he
              rw [hc] at h1
              exact ⟨es, h1, sees_of n e s0 hk q es y h2⟩
          · cases h
        · cases h
      · cases h
theorem open_sees {n : Nat} {t : TypeId} {s : Sh} {v : Value} {d : DataW H} {p : List MemPlace} (hs : shapeAt P n t = some s) (h : DataW.Trod enc P w 0 spare held t v d p) : Sees w s v.cells.toList := by
  obtain ⟨fuel, hf⟩ := h
  exact sees_of n t s hs fuel _ _ hf
/-- a slice by its cells -/
theorem open_sl {r : Reach} {b0 n : Nat} {t e : TypeId} {s : Sh} {v : Value} {d : DataW H} {p : List MemPlace} (hu : P.underlying t = some (.slice e)) (hs : shapeAt P n t = some s) (hv : Value.okWide P w r b0 t v) (h : DataW.Trod enc P w 0 spare held t v d p) :
    ∃ A m c, v = .slice A m c ∧ Sees w s [.slice A m c] := by
  obtain ⟨A, m, c, rfl⟩ := okWide_slice hu hv
  exact ⟨A, m, c, rfl, by have := open_sees hs h; simpa [Value.cells] using this⟩
/-- a string -/
theorem open_text {r : Reach} {b0 n : Nat} {t : TypeId} {v : Value} {d : DataW H} {p : List MemPlace} (hu : P.underlying t = some .string) (hv : Value.okWide P w r b0 t v) (h : DataW.Trod enc P w 0 spare held t v d p) :
    ∃ x, v = .string x ∧ x.size ≤ maxLen := by
  have := open_sees (n := 1) (s := .str) (by simp [shapeAt, hu]) h
  obtain ⟨x, hx, hl⟩ := this
  refine ⟨x, ?_, hl⟩
  cases v <;> simp_all [Value.cells]
  · rename_i cs
    simp [Value.okWide, hu, Cell.okWide, Cell.ok] at hv
end
section
variable {w : World}
theorem cells_one {a : Addr} {es : List Value} (h : w.cells? 0 a 1 = some es) : ∃ v, es = [v] ∧ w.cell? a = some v := by
  unfold World.cells? at h
  rw [if_pos (Nat.zero_le _)] at h
  rw [show List.range 1 = [0] from rfl] at h
  simp only [List.mapM_cons, List.mapM_nil, bind, Option.bind_eq_some_iff, pure, Option.some.injEq] at h
  obtain ⟨v, hv, ys, rfl, rfl⟩ := h
  exact ⟨v, rfl, by simpa [Addr.add] using hv⟩
theorem cells_at {a : Addr} {n : Nat} {es : List Value} (h : w.cells? 0 a n = some es) : es.length = n ∧ ∀ j v, es[j]? = some v → w.cell? (a.add j) = some v := by
  unfold World.cells? at h
  rw [if_pos (Nat.zero_le _)] at h
  have hl := mapM_some_length h
  rw [List.length_range] at hl
  refine ⟨hl, fun j v hj => ?_⟩
  have hlt : j < n := by
    rcases Nat.lt_or_ge j es.length with h1 | h1
    · omega
    · rw [List.getElem?_eq_none h1] at hj; cases hj
  rw [mapM_some_get h j j (by simp [hlt]), hj]
theorem add_add (a : Addr) (i j : Nat) : (a.add i).add j = a.add (i + j) := by
  cases i with
  | zero => rw [Nat.zero_add]; rfl
  | succ i =>
    cases j with
    | zero => rfl
    | succ j =>
      show ({ a with off := a.off + (i + 1) + (j + 1), spot := none } : Addr) = { a with off := a.off + (i + 1 + (j + 1)), spot := none }
      rw [Nat.add_assoc]
theorem add_block (a : Addr) (i : Nat) : (a.add i).block = a.block := by cases i <;> rfl
/-- the cells of a slice of numbers -/
def Ints (w : World) (k : IntKind) (A : Option Addr) (n : Nat) (xs : List Int) : Prop :=
  xs.length = n ∧ (∀ x ∈ xs, (Lit.int k x).wf = true) ∧ (A = none → n = 0) ∧ ∀ ad, A = some ad → ∀ j x, xs[j]? = some x → w.cell? (ad.add j) = some (.int k x)
theorem ints_row {a : Addr} {k : IntKind} : ∀ (len : Nat), (∀ i, i < len → ∃ es, w.cells? 0 (a.add (i * 1)) 1 = some es ∧ Sees w (.int k) es) →
    ∃ xs : List Int, xs.length = len ∧ (∀ x ∈ xs, (Lit.int k x).wf = true) ∧ ∀ j x, xs[j]? = some x → w.cell? (a.add j) = some (.int k x)
  | 0, _ => ⟨[], rfl, by simp, by simp⟩
  | len + 1, h => by
    obtain ⟨xs, h1, h2, h3⟩ := ints_row len (fun i hi => h i (by omega))
    obtain ⟨es, he, hs⟩ := h len (by omega)
    obtain ⟨v, rfl, hv⟩ := cells_one he
    obtain ⟨x, hx, hw⟩ := hs
    simp only [List.cons.injEq, and_true] at hx
    subst hx
    rw [Nat.mul_one] at hv
    refine ⟨xs ++ [x], by simp [h1], ?_, ?_⟩
    · intro y hy
      rcases List.mem_append.1 hy with hy | hy
      · exact h2 y hy
      · simp at hy; subst hy; exact hw
    · intro j y hj
      by_cases hlt : j < xs.length
      · rw [List.getElem?_append_left hlt] at hj
        exact h3 j y hj
      · rw [List.getElem?_append_right (by omega)] at hj
        have hj0 : j - xs.length = 0 := by
          rcases Nat.eq_zero_or_pos (j - xs.length) with h0 | h0
          · exact h0
          · rw [List.getElem?_eq_none (by simp; omega)] at hj; cases hj
        rw [hj0] at hj
        simp at hj
        subst hj
        rw [show j = len by omega]
        exact hv
theorem sees_ints {k : IntKind} {A : Option Addr} {n c : Nat} (h : Sees w (.sl (.int k)) [.slice A n c]) : n ≤ c ∧ c ≤ maxLen ∧ ∃ xs, Ints w k A n xs := by
  rcases h with h | ⟨a, len, cap, h, hl, hm, he⟩
  · simp only [List.cons.injEq, Value.slice.injEq, and_true] at h
    obtain ⟨rfl, rfl, rfl⟩ := h
    exact ⟨Nat.le_refl _, by simp [maxLen], [], rfl, by simp, fun _ => rfl, by simp⟩
  · simp only [List.cons.injEq, Value.slice.injEq, and_true] at h
    obtain ⟨rfl, rfl, rfl⟩ := h
    obtain ⟨xs, h1, h2, h3⟩ := ints_row _ he
    exact ⟨hl, hm, xs, h1, h2, by simp, fun ad had j x hx => by cases had; exact h3 j x hx⟩
theorem Ints.lt {k : IntKind} {ad : Addr} {n j : Nat} {xs : List Int} (h : Ints w k (some ad) n xs) (hj : j < n) : ad.block < w.heap.size := by
  have hl : j < xs.length := by have := h.1; omega
  have hx : xs[j]? = some xs[j] := List.getElem?_eq_getElem hl
  have := World.block_lt_of_cell? w _ (h.2.2.2 ad rfl j _ hx)
  unfold Addr.add at this
  split at this <;> exact this
end
end Go.Proofs.Ytlmddkciamdldaa

/-
  Slices that came in, as rows of words.
-/
namespace Go.Proofs.Ytlmddkciamdldaa
open Go.ChangeShapes Go.WideShapes Go.RowKit
set_option linter.unusedVariables false
set_option linter.unusedSimpArgs false
set_option maxRecDepth 100000
theorem wf_u32 {x : Int} (h : (Lit.int .u32 x).wf = true) : 0 ≤ x ∧ x < 4294967296 := by
  simp [Lit.wf, IntKind.bits, IntKind.signed, IntKind.min, IntKind.max] at h
  omega
theorem wf_u8 {x : Int} (h : (Lit.int .u8 x).wf = true) : 0 ≤ x ∧ x ≤ 255 := by
  simp [Lit.wf, IntKind.bits, IntKind.signed, IntKind.min, IntKind.max] at h
  omega
theorem wf_u16 {x : Int} (h : (Lit.int .u16 x).wf = true) : 0 ≤ x ∧ x ≤ 65535 := by
  simp [Lit.wf, IntKind.bits, IntKind.signed, IntKind.min, IntKind.max] at h
  omega
theorem wf_i64 {x : Int} (h : (Lit.int .i64 x).wf = true) : -9223372036854775808 ≤ x ∧ x ≤ 9223372036854775807 := by
  simp [Lit.wf, IntKind.bits, IntKind.signed, IntKind.min, IntKind.max] at h
  omega
theorem sees_ws {w : World} {A : Option Addr} {n c : Nat} (h : Sees w (.sl (.int .u32)) [.slice A n c]) : ∃ xs, Ws w A n c xs := by
  have hn : A = none → c = 0 := by
    rcases h with h | ⟨a, len, cap, h, _⟩
    · simp only [List.cons.injEq, Value.slice.injEq, and_true] at h
      exact fun _ => h.2.2
    · simp only [List.cons.injEq, Value.slice.injEq, and_true] at h
      exact fun e => by rw [h.1] at e; cases e
  obtain ⟨h1, h2, xs, i1, i2, i3, i4⟩ := sees_ints h
  exact ⟨xs, i1, h1, h2, hn, fun x hx => wf_u32 (i2 x hx), i4⟩
end Go.Proofs.Ytlmddkciamdldaa

/-
  Registers out of their cells.
-/
namespace Go.Proofs.Ytlmddkciamdldaa
open Go.ChangeShapes Go.WideShapes Go.RowKit
set_option linter.unusedVariables false
set_option linter.unusedSimpArgs false
set_option maxRecDepth 100000
def A.of (l : List Int) (h : Int) (n z c v : Bool) : A.Regs := ⟨fun j => l.getD j 0, h, n, z, c, v⟩
theorem A.word {a : Int} (w : (Lit.int .u32 a).wf = true) : 0 ≤ a ∧ a < 4294967296 := by have := bounds_u32 w; omega
/-- the shape of registers, and of how a machine is set up -/
def regsSh : Sh := .cons (.rep 16 (.int .u32)) (.cons (.int .u32) (.cons .bool (.cons .bool (.cons .bool (.cons .bool .nil)))))
def setSh : Sh := .cons regsSh (.cons (.int .u32) (.cons (.sl (.int .u32)) .nil))
theorem sees_rep {w : World} {cs : List Value} (h : Sees w (.rep 16 (.int .u32)) cs) : ∃ l : List Int, l.length = 16 ∧ cs = l.map (Value.int .u32) ∧ ∀ x ∈ l, 0 ≤ x ∧ x < 4294967296 := by
  obtain ⟨hl, h⟩ := h
  have hl : cs.length = 16 := hl
  have h1 : ∀ i : Nat, ∃ a : Int, i < 16 → cs[i]? = some (.int .u32 a) ∧ 0 ≤ a ∧ a < 4294967296 := by
    intro i
    by_cases hi : i < 16
    · obtain ⟨a, ha, hw⟩ := h i hi
      have ha : (cs.drop (i * 1)).take 1 = [.int .u32 a] := ha
      rw [Nat.mul_one] at ha
      refine ⟨a, fun _ => ⟨?_, A.word hw⟩⟩
      have : ((cs.drop i).take 1)[0]? = some (.int .u32 a) := by rw [ha]; rfl
      rw [List.getElem?_take, if_pos (by omega), List.getElem?_drop, Nat.add_zero] at this
      exact this
    · exact ⟨0, fun h => absurd h hi⟩
  refine ⟨(List.range 16).map fun i => Classical.choose (h1 i), by simp, ?_, ?_⟩
  · apply List.ext_getElem?
    intro i
    by_cases hi : i < 16
    · rw [(Classical.choose_spec (h1 i) hi).1, List.getElem?_map, List.getElem?_map, List.getElem?_range hi]; rfl
    · rw [List.getElem?_eq_none (by omega), List.getElem?_eq_none (by simp; omega)]
  · intro x hx
    obtain ⟨i, hi, rfl⟩ := List.mem_map.1 hx
    exact (Classical.choose_spec (h1 i) (by simpa using hi)).2
theorem list16 (l : List Int) (h : l.length = 16) : l.map (Value.int .u32) = [.int .u32 (l.getD 0 0), .int .u32 (l.getD 1 0), .int .u32 (l.getD 2 0), .int .u32 (l.getD 3 0), .int .u32 (l.getD 4 0), .int .u32 (l.getD 5 0), .int .u32 (l.getD 6 0), .int .u32 (l.getD 7 0), .int .u32 (l.getD 8 0), .int .u32 (l.getD 9 0), .int .u32 (l.getD 10 0), .int .u32 (l.getD 11 0), .int .u32 (l.getD 12 0), .int .u32 (l.getD 13 0), .int .u32 (l.getD 14 0), .int .u32 (l.getD 15 0)] := by
  apply List.ext_getElem?
  intro i
  by_cases hi : i < 16
  · rw [List.getElem?_map, List.getElem?_eq_getElem (by omega)]
    have hd : ∀ j, (hj : j < 16) → l.getD j 0 = l[j]'(by omega) := fun j hj => by simp [List.getD_eq_getElem?_getD, List.getElem?_eq_getElem (show j < l.length by omega)]
    rw [hd 0 (by omega), hd 1 (by omega), hd 2 (by omega), hd 3 (by omega), hd 4 (by omega), hd 5 (by omega), hd 6 (by omega), hd 7 (by omega), hd 8 (by omega), hd 9 (by omega), hd 10 (by omega), hd 11 (by omega), hd 12 (by omega), hd 13 (by omega), hd 14 (by omega), hd 15 (by omega)]
    rcases (show i = 0 ∨ i = 1 ∨ i = 2 ∨ i = 3 ∨ i = 4 ∨ i = 5 ∨ i = 6 ∨ i = 7 ∨ i = 8 ∨ i = 9 ∨ i = 10 ∨ i = 11 ∨ i = 12 ∨ i = 13 ∨ i = 14 ∨ i = 15 by omega) with rfl | rfl | rfl | rfl | rfl | rfl | rfl | rfl | rfl | rfl | rfl | rfl | rfl | rfl | rfl | rfl <;> rfl
  · rw [List.getElem?_eq_none (by simp; omega), List.getElem?_eq_none (by simp; omega)]
/-- the cells of a set-up: registers, a place, inputs -/
theorem sees_set {w : World} {cs : List Value} (h : Sees w setSh cs) : ∃ (s : A.Regs) (pc : Int) (A' : Option Addr) (n c : Nat), A.Ok s ∧ (0 ≤ pc ∧ pc < 4294967296) ∧ (∃ is, Ws w A' n c is) ∧ cs = [.int .u32 (s.r 0), .int .u32 (s.r 1), .int .u32 (s.r 2), .int .u32 (s.r 3), .int .u32 (s.r 4), .int .u32 (s.r 5), .int .u32 (s.r 6), .int .u32 (s.r 7), .int .u32 (s.r 8), .int .u32 (s.r 9), .int .u32 (s.r 10), .int .u32 (s.r 11), .int .u32 (s.r 12), .int .u32 (s.r 13), .int .u32 (s.r 14), .int .u32 (s.r 15), .int .u32 s.h, .bool s.n, .bool s.z, .bool s.c, .bool s.v, .int .u32 pc, .slice A' n c] := by
  obtain ⟨c0, d0, rfl, _, h0, h⟩ := h
  obtain ⟨c1, d1, rfl, _, ⟨pc, rfl, hp⟩, h⟩ := h
  obtain ⟨c2, d2, rfl, _, h2, h⟩ := h
  have hd : d2 = [] := h
  subst hd
  obtain ⟨e0, f0, rfl, _, hR, h0⟩ := h0
  obtain ⟨e1, f1, rfl, _, ⟨hh, rfl, hw⟩, h0⟩ := h0
  obtain ⟨e2, f2, rfl, _, ⟨n, rfl⟩, h0⟩ := h0
  obtain ⟨e3, f3, rfl, _, ⟨z, rfl⟩, h0⟩ := h0
  obtain ⟨e4, f4, rfl, _, ⟨c, rfl⟩, h0⟩ := h0
  obtain ⟨e5, f5, rfl, _, ⟨v, rfl⟩, h0⟩ := h0
  have hf : f5 = [] := h0
  subst hf
  obtain ⟨l, hl, rfl, hr⟩ := sees_rep hR
  have hs : ∃ A n c, c2 = [.slice A n c] := by
    rcases h2 with rfl | ⟨ad, len, cap, rfl, _⟩
    · exact ⟨_, _, _, rfl⟩
    · exact ⟨_, _, _, rfl⟩
  obtain ⟨A', m, q, rfl⟩ := hs
  refine ⟨A.of l hh n z c v, pc, A', m, q, ⟨fun j hj => ?_, A.word hw⟩, A.word hp, sees_ws h2, ?_⟩
  · show 0 ≤ l.getD j 0 ∧ l.getD j 0 < 4294967296
    rw [List.getD_eq_getElem?_getD, List.getElem?_eq_getElem (show j < l.length by omega)]
    exact hr _ (List.getElem_mem _)
  · rw [list16 l hl]; rfl
section
variable {H : Type} {enc : TypeId × Value → H} {P : Program} {w : World} {spare : Nat → Bool} {held : Bool}
theorem open_row {r : Reach} {b0 n : Nat} {t : TypeId} {fs : Array Field} {s : Sh} {v : Value} {d : DataW H} {p : List MemPlace} (hu : P.underlying t = some (.struct fs)) (hs : shapeAt P n t = some s) (hv : Value.okWide P w r b0 t v) (h : DataW.Trod enc P w 0 spare held t v d p) :
    ∃ cs : Array Value, v = .agg cs ∧ Sees w s cs.toList := by
  have hcs : ∃ cs : Array Value, v = .agg cs := by
    simp only [Value.okWide, hu] at hv
    obtain ⟨cs, rfl, _⟩ := hv
    exact ⟨cs, rfl⟩
  obtain ⟨cs, rfl⟩ := hcs
  exact ⟨cs, rfl, by have := open_sees hs h; simpa [Value.cells] using this⟩
end
end Go.Proofs.Ytlmddkciamdldaa

/-
  The contract of Fit: an instruction that may be.
-/
namespace Go.Proofs.Ytlmddkciamdldaa
open Go.RowKit
set_option linter.unusedVariables false
set_option linter.unusedSimpArgs false
set_option maxRecDepth 100000
set_option maxHeartbeats 1000000 in
theorem fit_1_1f (k op a b c i A B C O O3 O15 M16 M17 M20 M24 : Int)
    (EK : wrap64 (1 + (wrap64 (k.tmod 7 + 7)).tmod 7) = 1) (EO : (wrap64 (op.tmod 12 + 12)).tmod 12 = 0)
    (EA : bits .and .i64 a 15 = A) (EB : bits .and .i64 b 15 = B) (EC : bits .and .i64 c 15 = C) (E3 : bits .and .i64 op 3 = O3) (E15 : bits .and .i64 op 15 = O15)
    (E16 : bits .and .i64 i 65535 = M16) (E17 : bits .and .i64 i 131071 = M17) (E20 : bits .and .i64 i 1048575 = M20) (E24 : bits .and .i64 i 16777215 = M24)
    (m170 : 0 ≤ M17) (m171 : M17 ≤ 131071) (m200 : 0 ≤ M20) (m201 : M20 ≤ 1048575) (m240 : 0 ≤ M24) (m241 : M24 ≤ 16777215) (w : World) :
    Calls Try.prog 8 #[.agg #[.int .i64 k, .int .i64 op, .int .i64 a, .int .i64 b, .int .i64 c, .int .i64 i, .bool false]] w fun e w' => e = .returned (.agg #[.int .i64 1, .int .i64 0, .int .i64 A, .int .i64 0, .int .i64 C, .int .i64 0, .bool false]) ∧ Kept w w' := by
  go_enter Try.func8, Try.ntmps8
  go_wp2_with fail
  exact bodyPost_ret (v := .agg #[.int .i64 1, .int .i64 0, .int .i64 A, .int .i64 0, .int .i64 C, .int .i64 0, .bool false]) (by simp [results, Try.results8, go_sem]) rfl ⟨rfl, (((Kept.refl w).alloc _ _).alloc _ _).alloc _ _⟩
set_option maxHeartbeats 1000000 in
theorem fit_1_1t (k op a b c i A B C O O3 O15 M16 M17 M20 M24 : Int)
    (EK : wrap64 (1 + (wrap64 (k.tmod 7 + 7)).tmod 7) = 1) (EO : (wrap64 (op.tmod 12 + 12)).tmod 12 = 0)
    (EA : bits .and .i64 a 15 = A) (EB : bits .and .i64 b 15 = B) (EC : bits .and .i64 c 15 = C) (E3 : bits .and .i64 op 3 = O3) (E15 : bits .and .i64 op 15 = O15)
    (E16 : bits .and .i64 i 65535 = M16) (E17 : bits .and .i64 i 131071 = M17) (E20 : bits .and .i64 i 1048575 = M20) (E24 : bits .and .i64 i 16777215 = M24)
    (m170 : 0 ≤ M17) (m171 : M17 ≤ 131071) (m200 : 0 ≤ M20) (m201 : M20 ≤ 1048575) (m240 : 0 ≤ M24) (m241 : M24 ≤ 16777215) (w : World) :
    Calls Try.prog 8 #[.agg #[.int .i64 k, .int .i64 op, .int .i64 a, .int .i64 b, .int .i64 c, .int .i64 i, .bool true]] w fun e w' => e = .returned (.agg #[.int .i64 1, .int .i64 0, .int .i64 A, .int .i64 0, .int .i64 C, .int .i64 0, .bool false]) ∧ Kept w w' := by
  go_enter Try.func8, Try.ntmps8
  go_wp2_with fail
  exact bodyPost_ret (v := .agg #[.int .i64 1, .int .i64 0, .int .i64 A, .int .i64 0, .int .i64 C, .int .i64 0, .bool false]) (by simp [results, Try.results8, go_sem]) rfl ⟨rfl, (((Kept.refl w).alloc _ _).alloc _ _).alloc _ _⟩
set_option maxHeartbeats 1000000 in
theorem fit_1_2f (k op a b c i A B C O O3 O15 M16 M17 M20 M24 : Int)
    (EK : wrap64 (1 + (wrap64 (k.tmod 7 + 7)).tmod 7) = 1) (EO : (wrap64 (op.tmod 12 + 12)).tmod 12 = O)
    (EA : bits .and .i64 a 15 = A) (EB : bits .and .i64 b 15 = B) (EC : bits .and .i64 c 15 = C) (E3 : bits .and .i64 op 3 = O3) (E15 : bits .and .i64 op 15 = O15)
    (E16 : bits .and .i64 i 65535 = M16) (E17 : bits .and .i64 i 131071 = M17) (E20 : bits .and .i64 i 1048575 = M20) (E24 : bits .and .i64 i 16777215 = M24)
    (m170 : 0 ≤ M17) (m171 : M17 ≤ 131071) (m200 : 0 ≤ M20) (m201 : M20 ≤ 1048575) (m240 : 0 ≤ M24) (m241 : M24 ≤ 16777215) (o0 : 1 ≤ O) (o1 : O < 8) (oz : ¬ O = 0) (w : World) :
    Calls Try.prog 8 #[.agg #[.int .i64 k, .int .i64 op, .int .i64 a, .int .i64 b, .int .i64 c, .int .i64 i, .bool false]] w fun e w' => e = .returned (.agg #[.int .i64 1, .int .i64 O, .int .i64 A, .int .i64 B, .int .i64 C, .int .i64 0, .bool false]) ∧ Kept w w' := by
  go_enter Try.func8, Try.ntmps8
  go_wp2_with fail
  exact bodyPost_ret (v := .agg #[.int .i64 1, .int .i64 O, .int .i64 A, .int .i64 B, .int .i64 C, .int .i64 0, .bool false]) (by simp [results, Try.results8, go_sem]) rfl ⟨rfl, (((Kept.refl w).alloc _ _).alloc _ _).alloc _ _⟩
set_option maxHeartbeats 1000000 in
theorem fit_1_2t (k op a b c i A B C O O3 O15 M16 M17 M20 M24 : Int)
    (EK : wrap64 (1 + (wrap64 (k.tmod 7 + 7)).tmod 7) = 1) (EO : (wrap64 (op.tmod 12 + 12)).tmod 12 = O)
    (EA : bits .and .i64 a 15 = A) (EB : bits .and .i64 b 15 = B) (EC : bits .and .i64 c 15 = C) (E3 : bits .and .i64 op 3 = O3) (E15 : bits .and .i64 op 15 = O15)
    (E16 : bits .and .i64 i 65535 = M16) (E17 : bits .and .i64 i 131071 = M17) (E20 : bits .and .i64 i 1048575 = M20) (E24 : bits .and .i64 i 16777215 = M24)
    (m170 : 0 ≤ M17) (m171 : M17 ≤ 131071) (m200 : 0 ≤ M20) (m201 : M20 ≤ 1048575) (m240 : 0 ≤ M24) (m241 : M24 ≤ 16777215) (o0 : 1 ≤ O) (o1 : O < 8) (oz : ¬ O = 0) (w : World) :
    Calls Try.prog 8 #[.agg #[.int .i64 k, .int .i64 op, .int .i64 a, .int .i64 b, .int .i64 c, .int .i64 i, .bool true]] w fun e w' => e = .returned (.agg #[.int .i64 1, .int .i64 O, .int .i64 A, .int .i64 B, .int .i64 C, .int .i64 0, .bool false]) ∧ Kept w w' := by
  go_enter Try.func8, Try.ntmps8
  go_wp2_with fail
  exact bodyPost_ret (v := .agg #[.int .i64 1, .int .i64 O, .int .i64 A, .int .i64 B, .int .i64 C, .int .i64 0, .bool false]) (by simp [results, Try.results8, go_sem]) rfl ⟨rfl, (((Kept.refl w).alloc _ _).alloc _ _).alloc _ _⟩
set_option maxHeartbeats 1000000 in
theorem fit_1_3f (k op a b c i A B C O O3 O15 M16 M17 M20 M24 : Int)
    (EK : wrap64 (1 + (wrap64 (k.tmod 7 + 7)).tmod 7) = 1) (EO : (wrap64 (op.tmod 12 + 12)).tmod 12 = O)
    (EA : bits .and .i64 a 15 = A) (EB : bits .and .i64 b 15 = B) (EC : bits .and .i64 c 15 = C) (E3 : bits .and .i64 op 3 = O3) (E15 : bits .and .i64 op 15 = O15)
    (E16 : bits .and .i64 i 65535 = M16) (E17 : bits .and .i64 i 131071 = M17) (E20 : bits .and .i64 i 1048575 = M20) (E24 : bits .and .i64 i 16777215 = M24)
    (m170 : 0 ≤ M17) (m171 : M17 ≤ 131071) (m200 : 0 ≤ M20) (m201 : M20 ≤ 1048575) (m240 : 0 ≤ M24) (m241 : M24 ≤ 16777215) (o0 : 8 ≤ O) (o1 : O ≤ 10) (oz : ¬ O = 0) (w : World) :
    Calls Try.prog 8 #[.agg #[.int .i64 k, .int .i64 op, .int .i64 a, .int .i64 b, .int .i64 c, .int .i64 i, .bool false]] w fun e w' => e = .returned (.agg #[.int .i64 1, .int .i64 O, .int .i64 A, .int .i64 B, .int .i64 C, .int .i64 0, .bool false]) ∧ Kept w w' := by
  go_enter Try.func8, Try.ntmps8
  go_wp2_with fail
  exact bodyPost_ret (v := .agg #[.int .i64 1, .int .i64 O, .int .i64 A, .int .i64 B, .int .i64 C, .int .i64 0, .bool false]) (by simp [results, Try.results8, go_sem]) rfl ⟨rfl, (((Kept.refl w).alloc _ _).alloc _ _).alloc _ _⟩
set_option maxHeartbeats 1000000 in
theorem fit_1_3t (k op a b c i A B C O O3 O15 M16 M17 M20 M24 : Int)
    (EK : wrap64 (1 + (wrap64 (k.tmod 7 + 7)).tmod 7) = 1) (EO : (wrap64 (op.tmod 12 + 12)).tmod 12 = O)
    (EA : bits .and .i64 a 15 = A) (EB : bits .and .i64 b 15 = B) (EC : bits .and .i64 c 15 = C) (E3 : bits .and .i64 op 3 = O3) (E15 : bits .and .i64 op 15 = O15)
    (E16 : bits .and .i64 i 65535 = M16) (E17 : bits .and .i64 i 131071 = M17) (E20 : bits .and .i64 i 1048575 = M20) (E24 : bits .and .i64 i 16777215 = M24)
    (m170 : 0 ≤ M17) (m171 : M17 ≤ 131071) (m200 : 0 ≤ M20) (m201 : M20 ≤ 1048575) (m240 : 0 ≤ M24) (m241 : M24 ≤ 16777215) (o0 : 8 ≤ O) (o1 : O ≤ 10) (oz : ¬ O = 0) (w : World) :
    Calls Try.prog 8 #[.agg #[.int .i64 k, .int .i64 op, .int .i64 a, .int .i64 b, .int .i64 c, .int .i64 i, .bool true]] w fun e w' => e = .returned (.agg #[.int .i64 1, .int .i64 O, .int .i64 A, .int .i64 B, .int .i64 C, .int .i64 0, .bool true]) ∧ Kept w w' := by
  go_enter Try.func8, Try.ntmps8
  go_wp2_with fail
  exact bodyPost_ret (v := .agg #[.int .i64 1, .int .i64 O, .int .i64 A, .int .i64 B, .int .i64 C, .int .i64 0, .bool true]) (by simp [results, Try.results8, go_sem]) rfl ⟨rfl, (((Kept.refl w).alloc _ _).alloc _ _).alloc _ _⟩
set_option maxHeartbeats 1000000 in
theorem fit_1_4f (k op a b c i A B C O O3 O15 M16 M17 M20 M24 : Int)
    (EK : wrap64 (1 + (wrap64 (k.tmod 7 + 7)).tmod 7) = 1) (EO : (wrap64 (op.tmod 12 + 12)).tmod 12 = 11)
    (EA : bits .and .i64 a 15 = A) (EB : bits .and .i64 b 15 = B) (EC : bits .and .i64 c 15 = C) (E3 : bits .and .i64 op 3 = O3) (E15 : bits .and .i64 op 15 = O15)
    (E16 : bits .and .i64 i 65535 = M16) (E17 : bits .and .i64 i 131071 = M17) (E20 : bits .and .i64 i 1048575 = M20) (E24 : bits .and .i64 i 16777215 = M24)
    (m170 : 0 ≤ M17) (m171 : M17 ≤ 131071) (m200 : 0 ≤ M20) (m201 : M20 ≤ 1048575) (m240 : 0 ≤ M24) (m241 : M24 ≤ 16777215) (w : World) :
    Calls Try.prog 8 #[.agg #[.int .i64 k, .int .i64 op, .int .i64 a, .int .i64 b, .int .i64 c, .int .i64 i, .bool false]] w fun e w' => e = .returned (.agg #[.int .i64 1, .int .i64 11, .int .i64 A, .int .i64 B, .int .i64 C, .int .i64 0, .bool false]) ∧ Kept w w' := by
  go_enter Try.func8, Try.ntmps8
  go_wp2_with fail
  exact bodyPost_ret (v := .agg #[.int .i64 1, .int .i64 11, .int .i64 A, .int .i64 B, .int .i64 C, .int .i64 0, .bool false]) (by simp [results, Try.results8, go_sem]) rfl ⟨rfl, (((Kept.refl w).alloc _ _).alloc _ _).alloc _ _⟩
set_option maxHeartbeats 1000000 in
theorem fit_1_4t (k op a b c i A B C O O3 O15 M16 M17 M20 M24 : Int)
    (EK : wrap64 (1 + (wrap64 (k.tmod 7 + 7)).tmod 7) = 1) (EO : (wrap64 (op.tmod 12 + 12)).tmod 12 = 11)
    (EA : bits .and .i64 a 15 = A) (EB : bits .and .i64 b 15 = B) (EC : bits .and .i64 c 15 = C) (E3 : bits .and .i64 op 3 = O3) (E15 : bits .and .i64 op 15 = O15)
    (E16 : bits .and .i64 i 65535 = M16) (E17 : bits .and .i64 i 131071 = M17) (E20 : bits .and .i64 i 1048575 = M20) (E24 : bits .and .i64 i 16777215 = M24)
    (m170 : 0 ≤ M17) (m171 : M17 ≤ 131071) (m200 : 0 ≤ M20) (m201 : M20 ≤ 1048575) (m240 : 0 ≤ M24) (m241 : M24 ≤ 16777215) (w : World) :
    Calls Try.prog 8 #[.agg #[.int .i64 k, .int .i64 op, .int .i64 a, .int .i64 b, .int .i64 c, .int .i64 i, .bool true]] w fun e w' => e = .returned (.agg #[.int .i64 1, .int .i64 11, .int .i64 A, .int .i64 B, .int .i64 C, .int .i64 0, .bool false]) ∧ Kept w w' := by
  go_enter Try.func8, Try.ntmps8
  go_wp2_with fail
  exact bodyPost_ret (v := .agg #[.int .i64 1, .int .i64 11, .int .i64 A, .int .i64 B, .int .i64 C, .int .i64 0, .bool false]) (by simp [results, Try.results8, go_sem]) rfl ⟨rfl, (((Kept.refl w).alloc _ _).alloc _ _).alloc _ _⟩
set_option maxHeartbeats 1000000 in
theorem fit_2_1f (k op a b c i A B C O O3 O15 M16 M17 M20 M24 : Int)
    (EK : wrap64 (1 + (wrap64 (k.tmod 7 + 7)).tmod 7) = 2) (EO : (wrap64 (op.tmod 12 + 12)).tmod 12 = 0)
    (EA : bits .and .i64 a 15 = A) (EB : bits .and .i64 b 15 = B) (EC : bits .and .i64 c 15 = C) (E3 : bits .and .i64 op 3 = O3) (E15 : bits .and .i64 op 15 = O15)
    (E16 : bits .and .i64 i 65535 = M16) (E17 : bits .and .i64 i 131071 = M17) (E20 : bits .and .i64 i 1048575 = M20) (E24 : bits .and .i64 i 16777215 = M24)
    (m170 : 0 ≤ M17) (m171 : M17 ≤ 131071) (m200 : 0 ≤ M20) (m201 : M20 ≤ 1048575) (m240 : 0 ≤ M24) (m241 : M24 ≤ 16777215) (w : World) :
    Calls Try.prog 8 #[.agg #[.int .i64 k, .int .i64 op, .int .i64 a, .int .i64 b, .int .i64 c, .int .i64 i, .bool false]] w fun e w' => e = .returned (.agg #[.int .i64 2, .int .i64 0, .int .i64 A, .int .i64 0, .int .i64 0, .int .i64 (M17 - 65536), .bool false]) ∧ Kept w w' := by
  go_enter Try.func8, Try.ntmps8
  go_wp2_with fail
  exact bodyPost_ret (v := .agg #[.int .i64 2, .int .i64 0, .int .i64 A, .int .i64 0, .int .i64 0, .int .i64 (M17 - 65536), .bool false]) (by simp [results, Try.results8, go_sem]) rfl ⟨rfl, (((Kept.refl w).alloc _ _).alloc _ _).alloc _ _⟩
set_option maxHeartbeats 1000000 in
theorem fit_2_1t (k op a b c i A B C O O3 O15 M16 M17 M20 M24 : Int)
    (EK : wrap64 (1 + (wrap64 (k.tmod 7 + 7)).tmod 7) = 2) (EO : (wrap64 (op.tmod 12 + 12)).tmod 12 = 0)
    (EA : bits .and .i64 a 15 = A) (EB : bits .and .i64 b 15 = B) (EC : bits .and .i64 c 15 = C) (E3 : bits .and .i64 op 3 = O3) (E15 : bits .and .i64 op 15 = O15)
    (E16 : bits .and .i64 i 65535 = M16) (E17 : bits .and .i64 i 131071 = M17) (E20 : bits .and .i64 i 1048575 = M20) (E24 : bits .and .i64 i 16777215 = M24)
    (m170 : 0 ≤ M17) (m171 : M17 ≤ 131071) (m200 : 0 ≤ M20) (m201 : M20 ≤ 1048575) (m240 : 0 ≤ M24) (m241 : M24 ≤ 16777215) (w : World) :
    Calls Try.prog 8 #[.agg #[.int .i64 k, .int .i64 op, .int .i64 a, .int .i64 b, .int .i64 c, .int .i64 i, .bool true]] w fun e w' => e = .returned (.agg #[.int .i64 2, .int .i64 0, .int .i64 A, .int .i64 0, .int .i64 0, .int .i64 M16, .bool true]) ∧ Kept w w' := by
  go_enter Try.func8, Try.ntmps8
  go_wp2_with fail
  exact bodyPost_ret (v := .agg #[.int .i64 2, .int .i64 0, .int .i64 A, .int .i64 0, .int .i64 0, .int .i64 M16, .bool true]) (by simp [results, Try.results8, go_sem]) rfl ⟨rfl, (((Kept.refl w).alloc _ _).alloc _ _).alloc _ _⟩
set_option maxHeartbeats 1000000 in
theorem fit_2_2f (k op a b c i A B C O O3 O15 M16 M17 M20 M24 : Int)
    (EK : wrap64 (1 + (wrap64 (k.tmod 7 + 7)).tmod 7) = 2) (EO : (wrap64 (op.tmod 12 + 12)).tmod 12 = O)
    (EA : bits .and .i64 a 15 = A) (EB : bits .and .i64 b 15 = B) (EC : bits .and .i64 c 15 = C) (E3 : bits .and .i64 op 3 = O3) (E15 : bits .and .i64 op 15 = O15)
    (E16 : bits .and .i64 i 65535 = M16) (E17 : bits .and .i64 i 131071 = M17) (E20 : bits .and .i64 i 1048575 = M20) (E24 : bits .and .i64 i 16777215 = M24)
    (m170 : 0 ≤ M17) (m171 : M17 ≤ 131071) (m200 : 0 ≤ M20) (m201 : M20 ≤ 1048575) (m240 : 0 ≤ M24) (m241 : M24 ≤ 16777215) (o0 : 1 ≤ O) (o1 : O < 8) (oz : ¬ O = 0) (w : World) :
    Calls Try.prog 8 #[.agg #[.int .i64 k, .int .i64 op, .int .i64 a, .int .i64 b, .int .i64 c, .int .i64 i, .bool false]] w fun e w' => e = .returned (.agg #[.int .i64 2, .int .i64 O, .int .i64 A, .int .i64 B, .int .i64 0, .int .i64 (M17 - 65536), .bool false]) ∧ Kept w w' := by
  go_enter Try.func8, Try.ntmps8
  go_wp2_with fail
  exact bodyPost_ret (v := .agg #[.int .i64 2, .int .i64 O, .int .i64 A, .int .i64 B, .int .i64 0, .int .i64 (M17 - 65536), .bool false]) (by simp [results, Try.results8, go_sem]) rfl ⟨rfl, (((Kept.refl w).alloc _ _).alloc _ _).alloc _ _⟩
set_option maxHeartbeats 1000000 in
theorem fit_2_2t (k op a b c i A B C O O3 O15 M16 M17 M20 M24 : Int)
    (EK : wrap64 (1 + (wrap64 (k.tmod 7 + 7)).tmod 7) = 2) (EO : (wrap64 (op.tmod 12 + 12)).tmod 12 = O)
    (EA : bits .and .i64 a 15 = A) (EB : bits .and .i64 b 15 = B) (EC : bits .and .i64 c 15 = C) (E3 : bits .and .i64 op 3 = O3) (E15 : bits .and .i64 op 15 = O15)
    (E16 : bits .and .i64 i 65535 = M16) (E17 : bits .and .i64 i 131071 = M17) (E20 : bits .and .i64 i 1048575 = M20) (E24 : bits .and .i64 i 16777215 = M24)
    (m170 : 0 ≤ M17) (m171 : M17 ≤ 131071) (m200 : 0 ≤ M20) (m201 : M20 ≤ 1048575) (m240 : 0 ≤ M24) (m241 : M24 ≤ 16777215) (o0 : 1 ≤ O) (o1 : O < 8) (oz : ¬ O = 0) (w : World) :
    Calls Try.prog 8 #[.agg #[.int .i64 k, .int .i64 op, .int .i64 a, .int .i64 b, .int .i64 c, .int .i64 i, .bool true]] w fun e w' => e = .returned (.agg #[.int .i64 2, .int .i64 O, .int .i64 A, .int .i64 B, .int .i64 0, .int .i64 (M17 - 65536), .bool false]) ∧ Kept w w' := by
  go_enter Try.func8, Try.ntmps8
  go_wp2_with fail
  exact bodyPost_ret (v := .agg #[.int .i64 2, .int .i64 O, .int .i64 A, .int .i64 B, .int .i64 0, .int .i64 (M17 - 65536), .bool false]) (by simp [results, Try.results8, go_sem]) rfl ⟨rfl, (((Kept.refl w).alloc _ _).alloc _ _).alloc _ _⟩
set_option maxHeartbeats 1000000 in
theorem fit_2_3f (k op a b c i A B C O O3 O15 M16 M17 M20 M24 : Int)
    (EK : wrap64 (1 + (wrap64 (k.tmod 7 + 7)).tmod 7) = 2) (EO : (wrap64 (op.tmod 12 + 12)).tmod 12 = O)
    (EA : bits .and .i64 a 15 = A) (EB : bits .and .i64 b 15 = B) (EC : bits .and .i64 c 15 = C) (E3 : bits .and .i64 op 3 = O3) (E15 : bits .and .i64 op 15 = O15)
    (E16 : bits .and .i64 i 65535 = M16) (E17 : bits .and .i64 i 131071 = M17) (E20 : bits .and .i64 i 1048575 = M20) (E24 : bits .and .i64 i 16777215 = M24)
    (m170 : 0 ≤ M17) (m171 : M17 ≤ 131071) (m200 : 0 ≤ M20) (m201 : M20 ≤ 1048575) (m240 : 0 ≤ M24) (m241 : M24 ≤ 16777215) (o0 : 8 ≤ O) (o1 : O ≤ 10) (oz : ¬ O = 0) (w : World) :
    Calls Try.prog 8 #[.agg #[.int .i64 k, .int .i64 op, .int .i64 a, .int .i64 b, .int .i64 c, .int .i64 i, .bool false]] w fun e w' => e = .returned (.agg #[.int .i64 2, .int .i64 O, .int .i64 A, .int .i64 B, .int .i64 0, .int .i64 (M17 - 65536), .bool false]) ∧ Kept w w' := by
  go_enter Try.func8, Try.ntmps8
  go_wp2_with fail
  exact bodyPost_ret (v := .agg #[.int .i64 2, .int .i64 O, .int .i64 A, .int .i64 B, .int .i64 0, .int .i64 (M17 - 65536), .bool false]) (by simp [results, Try.results8, go_sem]) rfl ⟨rfl, (((Kept.refl w).alloc _ _).alloc _ _).alloc _ _⟩
set_option maxHeartbeats 1000000 in
theorem fit_2_3t (k op a b c i A B C O O3 O15 M16 M17 M20 M24 : Int)
    (EK : wrap64 (1 + (wrap64 (k.tmod 7 + 7)).tmod 7) = 2) (EO : (wrap64 (op.tmod 12 + 12)).tmod 12 = O)
    (EA : bits .and .i64 a 15 = A) (EB : bits .and .i64 b 15 = B) (EC : bits .and .i64 c 15 = C) (E3 : bits .and .i64 op 3 = O3) (E15 : bits .and .i64 op 15 = O15)
    (E16 : bits .and .i64 i 65535 = M16) (E17 : bits .and .i64 i 131071 = M17) (E20 : bits .and .i64 i 1048575 = M20) (E24 : bits .and .i64 i 16777215 = M24)
    (m170 : 0 ≤ M17) (m171 : M17 ≤ 131071) (m200 : 0 ≤ M20) (m201 : M20 ≤ 1048575) (m240 : 0 ≤ M24) (m241 : M24 ≤ 16777215) (o0 : 8 ≤ O) (o1 : O ≤ 10) (oz : ¬ O = 0) (w : World) :
    Calls Try.prog 8 #[.agg #[.int .i64 k, .int .i64 op, .int .i64 a, .int .i64 b, .int .i64 c, .int .i64 i, .bool true]] w fun e w' => e = .returned (.agg #[.int .i64 2, .int .i64 O, .int .i64 A, .int .i64 B, .int .i64 0, .int .i64 (M17 - 65536), .bool true]) ∧ Kept w w' := by
  go_enter Try.func8, Try.ntmps8
  go_wp2_with fail
  exact bodyPost_ret (v := .agg #[.int .i64 2, .int .i64 O, .int .i64 A, .int .i64 B, .int .i64 0, .int .i64 (M17 - 65536), .bool true]) (by simp [results, Try.results8, go_sem]) rfl ⟨rfl, (((Kept.refl w).alloc _ _).alloc _ _).alloc _ _⟩
set_option maxHeartbeats 1000000 in
theorem fit_2_4f (k op a b c i A B C O O3 O15 M16 M17 M20 M24 : Int)
    (EK : wrap64 (1 + (wrap64 (k.tmod 7 + 7)).tmod 7) = 2) (EO : (wrap64 (op.tmod 12 + 12)).tmod 12 = 11)
    (EA : bits .and .i64 a 15 = A) (EB : bits .and .i64 b 15 = B) (EC : bits .and .i64 c 15 = C) (E3 : bits .and .i64 op 3 = O3) (E15 : bits .and .i64 op 15 = O15)
    (E16 : bits .and .i64 i 65535 = M16) (E17 : bits .and .i64 i 131071 = M17) (E20 : bits .and .i64 i 1048575 = M20) (E24 : bits .and .i64 i 16777215 = M24)
    (m170 : 0 ≤ M17) (m171 : M17 ≤ 131071) (m200 : 0 ≤ M20) (m201 : M20 ≤ 1048575) (m240 : 0 ≤ M24) (m241 : M24 ≤ 16777215) (w : World) :
    Calls Try.prog 8 #[.agg #[.int .i64 k, .int .i64 op, .int .i64 a, .int .i64 b, .int .i64 c, .int .i64 i, .bool false]] w fun e w' => e = .returned (.agg #[.int .i64 2, .int .i64 11, .int .i64 A, .int .i64 B, .int .i64 0, .int .i64 (M17 - 65536), .bool false]) ∧ Kept w w' := by
  go_enter Try.func8, Try.ntmps8
  go_wp2_with fail
  exact bodyPost_ret (v := .agg #[.int .i64 2, .int .i64 11, .int .i64 A, .int .i64 B, .int .i64 0, .int .i64 (M17 - 65536), .bool false]) (by simp [results, Try.results8, go_sem]) rfl ⟨rfl, (((Kept.refl w).alloc _ _).alloc _ _).alloc _ _⟩
set_option maxHeartbeats 1000000 in
theorem fit_2_4t (k op a b c i A B C O O3 O15 M16 M17 M20 M24 : Int)
    (EK : wrap64 (1 + (wrap64 (k.tmod 7 + 7)).tmod 7) = 2) (EO : (wrap64 (op.tmod 12 + 12)).tmod 12 = 11)
    (EA : bits .and .i64 a 15 = A) (EB : bits .and .i64 b 15 = B) (EC : bits .and .i64 c 15 = C) (E3 : bits .and .i64 op 3 = O3) (E15 : bits .and .i64 op 15 = O15)
    (E16 : bits .and .i64 i 65535 = M16) (E17 : bits .and .i64 i 131071 = M17) (E20 : bits .and .i64 i 1048575 = M20) (E24 : bits .and .i64 i 16777215 = M24)
    (m170 : 0 ≤ M17) (m171 : M17 ≤ 131071) (m200 : 0 ≤ M20) (m201 : M20 ≤ 1048575) (m240 : 0 ≤ M24) (m241 : M24 ≤ 16777215) (w : World) :
    Calls Try.prog 8 #[.agg #[.int .i64 k, .int .i64 op, .int .i64 a, .int .i64 b, .int .i64 c, .int .i64 i, .bool true]] w fun e w' => e = .returned (.agg #[.int .i64 2, .int .i64 11, .int .i64 A, .int .i64 B, .int .i64 0, .int .i64 (M17 - 65536), .bool false]) ∧ Kept w w' := by
  go_enter Try.func8, Try.ntmps8
  go_wp2_with fail
  exact bodyPost_ret (v := .agg #[.int .i64 2, .int .i64 11, .int .i64 A, .int .i64 B, .int .i64 0, .int .i64 (M17 - 65536), .bool false]) (by simp [results, Try.results8, go_sem]) rfl ⟨rfl, (((Kept.refl w).alloc _ _).alloc _ _).alloc _ _⟩
set_option maxHeartbeats 1000000 in
theorem fit_3 (k op a b c i A B C O O3 O15 M16 M17 M20 M24 : Int) (u : Bool)
    (EK : wrap64 (1 + (wrap64 (k.tmod 7 + 7)).tmod 7) = 3) (EO : (wrap64 (op.tmod 12 + 12)).tmod 12 = O)
    (EA : bits .and .i64 a 15 = A) (EB : bits .and .i64 b 15 = B) (EC : bits .and .i64 c 15 = C) (E3 : bits .and .i64 op 3 = O3) (E15 : bits .and .i64 op 15 = O15)
    (E16 : bits .and .i64 i 65535 = M16) (E17 : bits .and .i64 i 131071 = M17) (E20 : bits .and .i64 i 1048575 = M20) (E24 : bits .and .i64 i 16777215 = M24)
    (m170 : 0 ≤ M17) (m171 : M17 ≤ 131071) (m200 : 0 ≤ M20) (m201 : M20 ≤ 1048575) (m240 : 0 ≤ M24) (m241 : M24 ≤ 16777215) (w : World) :
    Calls Try.prog 8 #[.agg #[.int .i64 k, .int .i64 op, .int .i64 a, .int .i64 b, .int .i64 c, .int .i64 i, .bool u]] w fun e w' => e = .returned (.agg #[.int .i64 3, .int .i64 0, .int .i64 A, .int .i64 0, .int .i64 0, .int .i64 0, .bool false]) ∧ Kept w w' := by
  go_enter Try.func8, Try.ntmps8
  go_wp2_with fail
  exact bodyPost_ret (v := .agg #[.int .i64 3, .int .i64 0, .int .i64 A, .int .i64 0, .int .i64 0, .int .i64 0, .bool false]) (by simp [results, Try.results8, go_sem]) rfl ⟨rfl, (((Kept.refl w).alloc _ _).alloc _ _).alloc _ _⟩
set_option maxHeartbeats 1000000 in
theorem fit_4 (k op a b c i A B C O O3 O15 M16 M17 M20 M24 : Int) (u : Bool)
    (EK : wrap64 (1 + (wrap64 (k.tmod 7 + 7)).tmod 7) = 4) (EO : (wrap64 (op.tmod 12 + 12)).tmod 12 = O)
    (EA : bits .and .i64 a 15 = A) (EB : bits .and .i64 b 15 = B) (EC : bits .and .i64 c 15 = C) (E3 : bits .and .i64 op 3 = O3) (E15 : bits .and .i64 op 15 = O15)
    (E16 : bits .and .i64 i 65535 = M16) (E17 : bits .and .i64 i 131071 = M17) (E20 : bits .and .i64 i 1048575 = M20) (E24 : bits .and .i64 i 16777215 = M24)
    (m170 : 0 ≤ M17) (m171 : M17 ≤ 131071) (m200 : 0 ≤ M20) (m201 : M20 ≤ 1048575) (m240 : 0 ≤ M24) (m241 : M24 ≤ 16777215) (w : World) :
    Calls Try.prog 8 #[.agg #[.int .i64 k, .int .i64 op, .int .i64 a, .int .i64 b, .int .i64 c, .int .i64 i, .bool u]] w fun e w' => e = .returned (.agg #[.int .i64 4, .int .i64 0, .int .i64 A, .int .i64 0, .int .i64 0, .int .i64 0, .bool false]) ∧ Kept w w' := by
  go_enter Try.func8, Try.ntmps8
  go_wp2_with fail
  exact bodyPost_ret (v := .agg #[.int .i64 4, .int .i64 0, .int .i64 A, .int .i64 0, .int .i64 0, .int .i64 0, .bool false]) (by simp [results, Try.results8, go_sem]) rfl ⟨rfl, (((Kept.refl w).alloc _ _).alloc _ _).alloc _ _⟩
set_option maxHeartbeats 1000000 in
theorem fit_5 (k op a b c i A B C O O3 O15 M16 M17 M20 M24 : Int) (u : Bool)
    (EK : wrap64 (1 + (wrap64 (k.tmod 7 + 7)).tmod 7) = 5) (EO : (wrap64 (op.tmod 12 + 12)).tmod 12 = O)
    (EA : bits .and .i64 a 15 = A) (EB : bits .and .i64 b 15 = B) (EC : bits .and .i64 c 15 = C) (E3 : bits .and .i64 op 3 = O3) (E15 : bits .and .i64 op 15 = O15)
    (E16 : bits .and .i64 i 65535 = M16) (E17 : bits .and .i64 i 131071 = M17) (E20 : bits .and .i64 i 1048575 = M20) (E24 : bits .and .i64 i 16777215 = M24)
    (m170 : 0 ≤ M17) (m171 : M17 ≤ 131071) (m200 : 0 ≤ M20) (m201 : M20 ≤ 1048575) (m240 : 0 ≤ M24) (m241 : M24 ≤ 16777215) (w : World) :
    Calls Try.prog 8 #[.agg #[.int .i64 k, .int .i64 op, .int .i64 a, .int .i64 b, .int .i64 c, .int .i64 i, .bool u]] w fun e w' => e = .returned (.agg #[.int .i64 5, .int .i64 O3, .int .i64 A, .int .i64 B, .int .i64 0, .int .i64 (M20 - 524288), .bool false]) ∧ Kept w w' := by
  go_enter Try.func8, Try.ntmps8
  go_wp2_with fail
  exact bodyPost_ret (v := .agg #[.int .i64 5, .int .i64 O3, .int .i64 A, .int .i64 B, .int .i64 0, .int .i64 (M20 - 524288), .bool false]) (by simp [results, Try.results8, go_sem]) rfl ⟨rfl, (((Kept.refl w).alloc _ _).alloc _ _).alloc _ _⟩
set_option maxHeartbeats 1000000 in
theorem fit_6 (k op a b c i A B C O O3 O15 M16 M17 M20 M24 : Int) (u : Bool)
    (EK : wrap64 (1 + (wrap64 (k.tmod 7 + 7)).tmod 7) = 6) (EO : (wrap64 (op.tmod 12 + 12)).tmod 12 = O)
    (EA : bits .and .i64 a 15 = A) (EB : bits .and .i64 b 15 = B) (EC : bits .and .i64 c 15 = C) (E3 : bits .and .i64 op 3 = O3) (E15 : bits .and .i64 op 15 = O15)
    (E16 : bits .and .i64 i 65535 = M16) (E17 : bits .and .i64 i 131071 = M17) (E20 : bits .and .i64 i 1048575 = M20) (E24 : bits .and .i64 i 16777215 = M24)
    (m170 : 0 ≤ M17) (m171 : M17 ≤ 131071) (m200 : 0 ≤ M20) (m201 : M20 ≤ 1048575) (m240 : 0 ≤ M24) (m241 : M24 ≤ 16777215) (w : World) :
    Calls Try.prog 8 #[.agg #[.int .i64 k, .int .i64 op, .int .i64 a, .int .i64 b, .int .i64 c, .int .i64 i, .bool u]] w fun e w' => e = .returned (.agg #[.int .i64 6, .int .i64 O15, .int .i64 0, .int .i64 0, .int .i64 C, .int .i64 0, .bool u]) ∧ Kept w w' := by
  go_enter Try.func8, Try.ntmps8
  go_wp2_with fail
  exact bodyPost_ret (v := .agg #[.int .i64 6, .int .i64 O15, .int .i64 0, .int .i64 0, .int .i64 C, .int .i64 0, .bool u]) (by simp [results, Try.results8, go_sem]) rfl ⟨rfl, (((Kept.refl w).alloc _ _).alloc _ _).alloc _ _⟩
set_option maxHeartbeats 1000000 in
theorem fit_7 (k op a b c i A B C O O3 O15 M16 M17 M20 M24 : Int) (u : Bool)
    (EK : wrap64 (1 + (wrap64 (k.tmod 7 + 7)).tmod 7) = 7) (EO : (wrap64 (op.tmod 12 + 12)).tmod 12 = O)
    (EA : bits .and .i64 a 15 = A) (EB : bits .and .i64 b 15 = B) (EC : bits .and .i64 c 15 = C) (E3 : bits .and .i64 op 3 = O3) (E15 : bits .and .i64 op 15 = O15)
    (E16 : bits .and .i64 i 65535 = M16) (E17 : bits .and .i64 i 131071 = M17) (E20 : bits .and .i64 i 1048575 = M20) (E24 : bits .and .i64 i 16777215 = M24)
    (m170 : 0 ≤ M17) (m171 : M17 ≤ 131071) (m200 : 0 ≤ M20) (m201 : M20 ≤ 1048575) (m240 : 0 ≤ M24) (m241 : M24 ≤ 16777215) (w : World) :
    Calls Try.prog 8 #[.agg #[.int .i64 k, .int .i64 op, .int .i64 a, .int .i64 b, .int .i64 c, .int .i64 i, .bool u]] w fun e w' => e = .returned (.agg #[.int .i64 7, .int .i64 O15, .int .i64 0, .int .i64 0, .int .i64 0, .int .i64 (M24 - 8388608), .bool u]) ∧ Kept w w' := by
  go_enter Try.func8, Try.ntmps8
  go_wp2_with fail
  exact bodyPost_ret (v := .agg #[.int .i64 7, .int .i64 O15, .int .i64 0, .int .i64 0, .int .i64 0, .int .i64 (M24 - 8388608), .bool u]) (by simp [results, Try.results8, go_sem]) rfl ⟨rfl, (((Kept.refl w).alloc _ _).alloc _ _).alloc _ _⟩
end Go.Proofs.Ytlmddkciamdldaa

/-
  Fit answers an instruction that may be; the law IsaBack.
-/
namespace Go.Proofs.Ytlmddkciamdldaa
open Go.RowKit
set_option linter.unusedVariables false
set_option linter.unusedSimpArgs false
set_option maxRecDepth 100000
theorem i64_and_2 (n : Int) : bits .and .i64 n 3 = n % 4 := by
  have h : (BitVec.ofInt 64 3).toNat = 2 ^ 2 - 1 := by decide
  have key : (BitVec.ofInt 64 n &&& BitVec.ofInt 64 3).toNat = (n % ((2 ^ 64 : Nat) : Int)).toNat % 2 ^ 2 := by
    rw [BitVec.toNat_and, BitVec.toNat_ofInt, h, Nat.and_two_pow_sub_one_eq_mod]
  show IntKind.i64.wrap ((BitVec.ofInt 64 n &&& BitVec.ofInt 64 3).toNat : Nat) = n % 4
  rw [key, IntKind.wrap_i64]
  omega
theorem i64_and_4 (n : Int) : bits .and .i64 n 15 = n % 16 := by
  have h : (BitVec.ofInt 64 15).toNat = 2 ^ 4 - 1 := by decide
  have key : (BitVec.ofInt 64 n &&& BitVec.ofInt 64 15).toNat = (n % ((2 ^ 64 : Nat) : Int)).toNat % 2 ^ 4 := by
    rw [BitVec.toNat_and, BitVec.toNat_ofInt, h, Nat.and_two_pow_sub_one_eq_mod]
  show IntKind.i64.wrap ((BitVec.ofInt 64 n &&& BitVec.ofInt 64 15).toNat : Nat) = n % 16
  rw [key, IntKind.wrap_i64]
  omega
theorem i64_and_16 (n : Int) : bits .and .i64 n 65535 = n % 65536 := by
  have h : (BitVec.ofInt 64 65535).toNat = 2 ^ 16 - 1 := by decide
  have key : (BitVec.ofInt 64 n &&& BitVec.ofInt 64 65535).toNat = (n % ((2 ^ 64 : Nat) : Int)).toNat % 2 ^ 16 := by
    rw [BitVec.toNat_and, BitVec.toNat_ofInt, h, Nat.and_two_pow_sub_one_eq_mod]
  show IntKind.i64.wrap ((BitVec.ofInt 64 n &&& BitVec.ofInt 64 65535).toNat : Nat) = n % 65536
  rw [key, IntKind.wrap_i64]
  omega
theorem i64_and_17 (n : Int) : bits .and .i64 n 131071 = n % 131072 := by
  have h : (BitVec.ofInt 64 131071).toNat = 2 ^ 17 - 1 := by decide
  have key : (BitVec.ofInt 64 n &&& BitVec.ofInt 64 131071).toNat = (n % ((2 ^ 64 : Nat) : Int)).toNat % 2 ^ 17 := by
    rw [BitVec.toNat_and, BitVec.toNat_ofInt, h, Nat.and_two_pow_sub_one_eq_mod]
  show IntKind.i64.wrap ((BitVec.ofInt 64 n &&& BitVec.ofInt 64 131071).toNat : Nat) = n % 131072
  rw [key, IntKind.wrap_i64]
  omega
theorem i64_and_20 (n : Int) : bits .and .i64 n 1048575 = n % 1048576 := by
  have h : (BitVec.ofInt 64 1048575).toNat = 2 ^ 20 - 1 := by decide
  have key : (BitVec.ofInt 64 n &&& BitVec.ofInt 64 1048575).toNat = (n % ((2 ^ 64 : Nat) : Int)).toNat % 2 ^ 20 := by
    rw [BitVec.toNat_and, BitVec.toNat_ofInt, h, Nat.and_two_pow_sub_one_eq_mod]
  show IntKind.i64.wrap ((BitVec.ofInt 64 n &&& BitVec.ofInt 64 1048575).toNat : Nat) = n % 1048576
  rw [key, IntKind.wrap_i64]
  omega
theorem i64_and_24 (n : Int) : bits .and .i64 n 16777215 = n % 16777216 := by
  have h : (BitVec.ofInt 64 16777215).toNat = 2 ^ 24 - 1 := by decide
  have key : (BitVec.ofInt 64 n &&& BitVec.ofInt 64 16777215).toNat = (n % ((2 ^ 64 : Nat) : Int)).toNat % 2 ^ 24 := by
    rw [BitVec.toNat_and, BitVec.toNat_ofInt, h, Nat.and_two_pow_sub_one_eq_mod]
  show IntKind.i64.wrap ((BitVec.ofInt 64 n &&& BitVec.ofInt 64 16777215).toNat : Nat) = n % 16777216
  rw [key, IntKind.wrap_i64]
  omega
theorem I.tm7 (k : Int) : 1 ≤ wrap64 (1 + (wrap64 (k.tmod 7 + 7)).tmod 7) ∧ wrap64 (1 + (wrap64 (k.tmod 7 + 7)).tmod 7) ≤ 7 := by
  have a := Int.tmod_lt_of_pos k (b := 7) (by omega)
  have b : -7 < k.tmod 7 := by
    have := Int.tmod_lt_of_pos (-k) (b := 7) (by omega)
    rw [Int.neg_tmod] at this
    omega
  generalize k.tmod 7 = t at *
  have e : wrap64 (t + 7) = t + 7 := by unfold wrap64; omega
  rw [e]
  have c := Int.tmod_lt_of_pos (t + 7) (b := 7) (by omega)
  have d := Int.tmod_nonneg 7 (a := t + 7) (by omega)
  generalize (t + 7).tmod 7 = q at *
  unfold wrap64
  omega
theorem I.tm12 (k : Int) : 0 ≤ (wrap64 (k.tmod 12 + 12)).tmod 12 ∧ (wrap64 (k.tmod 12 + 12)).tmod 12 ≤ 11 := by
  have a := Int.tmod_lt_of_pos k (b := 12) (by omega)
  have b : -12 < k.tmod 12 := by
    have := Int.tmod_lt_of_pos (-k) (b := 12) (by omega)
    rw [Int.neg_tmod] at this
    omega
  generalize k.tmod 12 = t at *
  have e : wrap64 (t + 12) = t + 12 := by unfold wrap64; omega
  rw [e]
  have c := Int.tmod_lt_of_pos (t + 12) (b := 12) (by omega)
  have d := Int.tmod_nonneg 12 (a := t + 12) (by omega)
  omega
theorem fit_any (k op a b c i : Int) (u : Bool) : ∃ k' op' a' b' c' i' u', I.May ⟨k', op', a', b', c', i', u'⟩ ∧
    ∀ w, Calls Try.prog 8 #[.agg #[.int .i64 k, .int .i64 op, .int .i64 a, .int .i64 b, .int .i64 c, .int .i64 i, .bool u]] w fun e w' => e = .returned (.agg #[.int .i64 (k'), .int .i64 (op'), .int .i64 (a'), .int .i64 (b'), .int .i64 (c'), .int .i64 (i'), .bool (u')]) ∧ Kept w w' := by
  obtain ⟨K, EK⟩ : ∃ r, wrap64 (1 + (wrap64 (k.tmod 7 + 7)).tmod 7) = r := ⟨_, rfl⟩
  obtain ⟨O, EO⟩ : ∃ r, (wrap64 (op.tmod 12 + 12)).tmod 12 = r := ⟨_, rfl⟩
  have hK := I.tm7 k
  have hO := I.tm12 op
  rw [EK] at hK
  rw [EO] at hO
  obtain ⟨A, EA⟩ : ∃ r, bits .and .i64 a 15 = r := ⟨_, rfl⟩
  obtain ⟨B, EB⟩ : ∃ r, bits .and .i64 b 15 = r := ⟨_, rfl⟩
  obtain ⟨C, EC⟩ : ∃ r, bits .and .i64 c 15 = r := ⟨_, rfl⟩
  obtain ⟨O3, E3⟩ : ∃ r, bits .and .i64 op 3 = r := ⟨_, rfl⟩
  obtain ⟨O15, E15⟩ : ∃ r, bits .and .i64 op 15 = r := ⟨_, rfl⟩
  obtain ⟨M16, E16⟩ : ∃ r, bits .and .i64 i 65535 = r := ⟨_, rfl⟩
  obtain ⟨M17, E17⟩ : ∃ r, bits .and .i64 i 131071 = r := ⟨_, rfl⟩
  obtain ⟨M20, E20⟩ : ∃ r, bits .and .i64 i 1048575 = r := ⟨_, rfl⟩
  obtain ⟨M24, E24⟩ : ∃ r, bits .and .i64 i 16777215 = r := ⟨_, rfl⟩
  have hA : 0 ≤ A ∧ A ≤ 15 := by rw [← EA, i64_and_4]; omega
  have hB : 0 ≤ B ∧ B ≤ 15 := by rw [← EB, i64_and_4]; omega
  have hC : 0 ≤ C ∧ C ≤ 15 := by rw [← EC, i64_and_4]; omega
  have h3 : 0 ≤ O3 ∧ O3 ≤ 3 := by rw [← E3, i64_and_2]; omega
  have h15 : 0 ≤ O15 ∧ O15 ≤ 15 := by rw [← E15, i64_and_4]; omega
  have h16 : 0 ≤ M16 ∧ M16 ≤ 65535 := by rw [← E16, i64_and_16]; omega
  have h17 : 0 ≤ M17 ∧ M17 ≤ 131071 := by rw [← E17, i64_and_17]; omega
  have h20 : 0 ≤ M20 ∧ M20 ≤ 1048575 := by rw [← E20, i64_and_20]; omega
  have h24 : 0 ≤ M24 ∧ M24 ≤ 16777215 := by rw [← E24, i64_and_24]; omega
  rcases (show K = 1 ∨ K = 2 ∨ K = 3 ∨ K = 4 ∨ K = 5 ∨ K = 6 ∨ K = 7 by omega) with rfl | rfl | rfl | rfl | rfl | rfl | rfl
  · rcases (show O = 0 ∨ (1 ≤ O ∧ O < 8 ∧ ¬ O = 0) ∨ (8 ≤ O ∧ O ≤ 10 ∧ ¬ O = 0) ∨ O = 11 by omega) with rfl | ⟨o0, o1, oz⟩ | ⟨o0, o1, oz⟩ | rfl
    · cases u
      · refine ⟨1, 0, A, 0, C, 0, false, ?_, fit_1_1f k op a b c i A B C 0 O3 O15 M16 M17 M20 M24 EK EO EA EB EC E3 E15 E16 E17 E20 E24 h17.1 h17.2 h20.1 h20.2 h24.1 h24.2⟩
        unfold I.May
        simp
        try omega
      · refine ⟨1, 0, A, 0, C, 0, false, ?_, fit_1_1t k op a b c i A B C 0 O3 O15 M16 M17 M20 M24 EK EO EA EB EC E3 E15 E16 E17 E20 E24 h17.1 h17.2 h20.1 h20.2 h24.1 h24.2⟩
        unfold I.May
        simp
        try omega
    · cases u
      · refine ⟨1, O, A, B, C, 0, false, ?_, fit_1_2f k op a b c i A B C O O3 O15 M16 M17 M20 M24 EK EO EA EB EC E3 E15 E16 E17 E20 E24 h17.1 h17.2 h20.1 h20.2 h24.1 h24.2 o0 o1 oz⟩
        unfold I.May
        simp
        try omega
      · refine ⟨1, O, A, B, C, 0, false, ?_, fit_1_2t k op a b c i A B C O O3 O15 M16 M17 M20 M24 EK EO EA EB EC E3 E15 E16 E17 E20 E24 h17.1 h17.2 h20.1 h20.2 h24.1 h24.2 o0 o1 oz⟩
        unfold I.May
        simp
        try omega
    · cases u
      · refine ⟨1, O, A, B, C, 0, false, ?_, fit_1_3f k op a b c i A B C O O3 O15 M16 M17 M20 M24 EK EO EA EB EC E3 E15 E16 E17 E20 E24 h17.1 h17.2 h20.1 h20.2 h24.1 h24.2 o0 o1 oz⟩
        unfold I.May
        simp
        try omega
      · refine ⟨1, O, A, B, C, 0, true, ?_, fit_1_3t k op a b c i A B C O O3 O15 M16 M17 M20 M24 EK EO EA EB EC E3 E15 E16 E17 E20 E24 h17.1 h17.2 h20.1 h20.2 h24.1 h24.2 o0 o1 oz⟩
        unfold I.May
        simp
        try omega
    · cases u
      · refine ⟨1, 11, A, B, C, 0, false, ?_, fit_1_4f k op a b c i A B C 11 O3 O15 M16 M17 M20 M24 EK EO EA EB EC E3 E15 E16 E17 E20 E24 h17.1 h17.2 h20.1 h20.2 h24.1 h24.2⟩
        unfold I.May
        simp
        try omega
      · refine ⟨1, 11, A, B, C, 0, false, ?_, fit_1_4t k op a b c i A B C 11 O3 O15 M16 M17 M20 M24 EK EO EA EB EC E3 E15 E16 E17 E20 E24 h17.1 h17.2 h20.1 h20.2 h24.1 h24.2⟩
        unfold I.May
        simp
        try omega
  · rcases (show O = 0 ∨ (1 ≤ O ∧ O < 8 ∧ ¬ O = 0) ∨ (8 ≤ O ∧ O ≤ 10 ∧ ¬ O = 0) ∨ O = 11 by omega) with rfl | ⟨o0, o1, oz⟩ | ⟨o0, o1, oz⟩ | rfl
    · cases u
      · refine ⟨2, 0, A, 0, 0, M17 - 65536, false, ?_, fit_2_1f k op a b c i A B C 0 O3 O15 M16 M17 M20 M24 EK EO EA EB EC E3 E15 E16 E17 E20 E24 h17.1 h17.2 h20.1 h20.2 h24.1 h24.2⟩
        unfold I.May
        simp
        try omega
      · refine ⟨2, 0, A, 0, 0, M16, true, ?_, fit_2_1t k op a b c i A B C 0 O3 O15 M16 M17 M20 M24 EK EO EA EB EC E3 E15 E16 E17 E20 E24 h17.1 h17.2 h20.1 h20.2 h24.1 h24.2⟩
        unfold I.May
        simp
        try omega
    · cases u
      · refine ⟨2, O, A, B, 0, M17 - 65536, false, ?_, fit_2_2f k op a b c i A B C O O3 O15 M16 M17 M20 M24 EK EO EA EB EC E3 E15 E16 E17 E20 E24 h17.1 h17.2 h20.1 h20.2 h24.1 h24.2 o0 o1 oz⟩
        unfold I.May
        simp
        try omega
      · refine ⟨2, O, A, B, 0, M17 - 65536, false, ?_, fit_2_2t k op a b c i A B C O O3 O15 M16 M17 M20 M24 EK EO EA EB EC E3 E15 E16 E17 E20 E24 h17.1 h17.2 h20.1 h20.2 h24.1 h24.2 o0 o1 oz⟩
        unfold I.May
        simp
        try omega
    · cases u
      · refine ⟨2, O, A, B, 0, M17 - 65536, false, ?_, fit_2_3f k op a b c i A B C O O3 O15 M16 M17 M20 M24 EK EO EA EB EC E3 E15 E16 E17 E20 E24 h17.1 h17.2 h20.1 h20.2 h24.1 h24.2 o0 o1 oz⟩
        unfold I.May
        simp
        try omega
      · refine ⟨2, O, A, B, 0, M17 - 65536, true, ?_, fit_2_3t k op a b c i A B C O O3 O15 M16 M17 M20 M24 EK EO EA EB EC E3 E15 E16 E17 E20 E24 h17.1 h17.2 h20.1 h20.2 h24.1 h24.2 o0 o1 oz⟩
        unfold I.May
        simp
        try omega
    · cases u
      · refine ⟨2, 11, A, B, 0, M17 - 65536, false, ?_, fit_2_4f k op a b c i A B C 11 O3 O15 M16 M17 M20 M24 EK EO EA EB EC E3 E15 E16 E17 E20 E24 h17.1 h17.2 h20.1 h20.2 h24.1 h24.2⟩
        unfold I.May
        simp
        try omega
      · refine ⟨2, 11, A, B, 0, M17 - 65536, false, ?_, fit_2_4t k op a b c i A B C 11 O3 O15 M16 M17 M20 M24 EK EO EA EB EC E3 E15 E16 E17 E20 E24 h17.1 h17.2 h20.1 h20.2 h24.1 h24.2⟩
        unfold I.May
        simp
        try omega
  · refine ⟨3, 0, A, 0, 0, 0, false, ?_, fit_3 k op a b c i A B C O O3 O15 M16 M17 M20 M24 u EK EO EA EB EC E3 E15 E16 E17 E20 E24 h17.1 h17.2 h20.1 h20.2 h24.1 h24.2⟩
    unfold I.May
    simp
    try omega
  · refine ⟨4, 0, A, 0, 0, 0, false, ?_, fit_4 k op a b c i A B C O O3 O15 M16 M17 M20 M24 u EK EO EA EB EC E3 E15 E16 E17 E20 E24 h17.1 h17.2 h20.1 h20.2 h24.1 h24.2⟩
    unfold I.May
    simp
    try omega
  · refine ⟨5, O3, A, B, 0, M20 - 524288, false, ?_, fit_5 k op a b c i A B C O O3 O15 M16 M17 M20 M24 u EK EO EA EB EC E3 E15 E16 E17 E20 E24 h17.1 h17.2 h20.1 h20.2 h24.1 h24.2⟩
    unfold I.May
    simp
    try omega
  · refine ⟨6, O15, 0, 0, C, 0, u, ?_, fit_6 k op a b c i A B C O O3 O15 M16 M17 M20 M24 u EK EO EA EB EC E3 E15 E16 E17 E20 E24 h17.1 h17.2 h20.1 h20.2 h24.1 h24.2⟩
    unfold I.May
    simp
    try omega
  · refine ⟨7, O15, 0, 0, 0, M24 - 8388608, u, ?_, fit_7 k op a b c i A B C O O3 O15 M16 M17 M20 M24 u EK EO EA EB EC E3 E15 E16 E17 E20 E24 h17.1 h17.2 h20.1 h20.2 h24.1 h24.2⟩
    unfold I.May
    simp
    try omega
end Go.Proofs.Ytlmddkciamdldaa
