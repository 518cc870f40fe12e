/-
  The frame of a law, once for all: what is plain among the arguments, opened cell by cell; that each argument reads behind the call as it did; the row's last step. No Go text is named here.
-/
import Derived.ChangeSame
import Derived.WideShapes
import Derived.OpenShut
import Derived.RowKit
import Derived.Carry
import Derived.Below
namespace Go.Proofs.YtpbgniffjlcbhaaDoor
open Go.ChangeShapes Go.WideShapes Go.RowKit
set_option linter.unusedVariables false
set_option linter.unusedSimpArgs false
set_option maxRecDepth 100000

/-- what a cell of plain data holds -/
inductive Ck where
  | int (k : IntKind)
  | bool
/-- the cells of a struct's fields, which must lie one behind the other -/
def fieldCells (P : Program) (g : TypeId → Option (List Ck)) : Nat → List Field → Option (List Ck)
  | _, [] => some []
  | off, f :: fs =>
    match g f.type with
    | some ks => if f.offset = off ∧ P.cellsOf f.type = ks.length then (fieldCells P g (off + ks.length) fs).map (ks ++ ·) else none
    | none => none
/-- the cells of a plain type: numbers and bools, structs and arrays of them -/
def plainCells (P : Program) : Nat → TypeId → Option (List Ck)
  | 0, _ => none
  | n + 1, t =>
    match P.underlying t with
    | some (.int k) => some [.int k]
    | some .bool => some [.bool]
    | some (.struct fs) => match fieldCells P (plainCells P n) 0 fs.toList with
      | some ks => if P.cellsOf t = ks.length then some ks else none
      | none => none
    | some (.array m e) => match plainCells P n e with
      | some ks => if P.cellsOf e = ks.length ∧ P.cellsOf t = m * ks.length then some (List.replicate m ks).flatten else none
      | none => none
    | _ => none
/-- the cells hold what they should -/
def Cells : List Ck → List Value → Prop
  | [], cs => cs = []
  | .int k :: ks, cs => ∃ a r, cs = .int k a :: r ∧ (Lit.int k a).wf = true ∧ Cells ks r
  | .bool :: ks, cs => ∃ b r, cs = .bool b :: r ∧ Cells ks r
theorem Cells.len : ∀ {ks : List Ck} {cs : List Value}, Cells ks cs → cs.length = ks.length
  | [], cs, h => by rw [show cs = [] from h]; rfl
  | .int k :: ks, cs, h => by obtain ⟨a, r, rfl, _, hr⟩ := h; simp [Cells.len hr]
  | .bool :: ks, cs, h => by obtain ⟨a, r, rfl, hr⟩ := h; simp [Cells.len hr]
theorem Cells.append : ∀ {ks ks' : List Ck} {cs cs' : List Value}, Cells ks cs → Cells ks' cs' → Cells (ks ++ ks') (cs ++ cs')
  | [], ks', cs, cs', h, h' => by rw [show cs = [] from h]; exact h'
  | .int k :: ks, ks', cs, cs', h, h' => by obtain ⟨a, r, rfl, hw, hr⟩ := h; exact ⟨a, r ++ cs', rfl, hw, Cells.append hr h'⟩
  | .bool :: ks, ks', cs, cs', h, h' => by obtain ⟨a, r, rfl, hr⟩ := h; exact ⟨a, r ++ cs', rfl, Cells.append hr h'⟩

section
variable {H : Type} {enc : TypeId × Value → H} {P : Program} {w : World} {base : Nat} {spare : Nat → Bool} {held : Bool}
theorem trodAll_stays (hl : laidOutB P = true) {W W' : World} {sp : Nat → Bool} : ∀ {ts : List TypeId} {vs : List Value} {ds : List (DataW H)} {ps : List MemPlace},
    DataW.TrodAll enc P W 0 (fun _ => true) true ts vs ds ps → (∀ t ∈ ts, P.readableRec t = true ∧ t < P.types.size) → (∀ p ∈ ps, W.sameAt W' p) → (∀ p ∈ ps, sp p.block = true) →
    DataW.TrodAll enc P W' 0 sp true ts vs ds ps
  | [], vs, ds, ps, h, _, _, _ => by obtain ⟨rfl, rfl, rfl⟩ := trodAll_nil h; exact trodAll_mk0
  | t :: ts, vs, ds, ps, h, ht, hsame, hs => by
    obtain ⟨v, vs', d, ds', p, q, rfl, rfl, rfl, h0, hr⟩ := trodAll_cons h
    have h1 := ht t List.mem_cons_self
    exact trodAll_cons_mk (WideElems.Trod_stays hl h1.1 h1.2 h0 (fun x hx => hsame x (List.mem_append_left _ hx)) (fun x hx => hs x (List.mem_append_left _ hx)))
      (trodAll_stays hl hr (fun t' h' => ht t' (List.mem_cons_of_mem _ h')) (fun x hx => hsame x (List.mem_append_right _ hx)) (fun x hx => hs x (List.mem_append_right _ hx)))
/-- the row's last step of a law: it answered true, and below the heap's old size nothing has turned -/
theorem post_law {f : Func} {s : ChangeSpec} {B : TypeId} {apart fresh handsOn : Bool} {W W' : World} {args : Array Value} {ds gs : List (DataW H)} {before : List MemPlace}
    (hl : laidOutB P = true) (hv : s.vars = []) (hB : P.underlying B = some .bool) (hR : f.resultTypes = #[B]) (hread : ∀ t ∈ f.params.toList, P.readableRec t = true ∧ t < P.types.size)
    (hW : DataW.Whole enc P f.params.toList s.vars apart W args.toList ds gs before)
    (hres : (s.fn H (ds ++ gs)).results = [.lit (.bool true)]) (hargs : (s.fn H (ds ++ gs)).args = ds) (hvars : (s.fn H (ds ++ gs)).vars = [])
    (hb : Below W.heap.size W W') :
    s.post enc P f apart fresh handsOn false W args (.bool true) W' := by
  have hlt : ∀ p ∈ before, p.block < W.heap.size := fun p hp => hW.lt p hp
  have hold : ∀ p ∈ before, (fun b => decide (b < W.heap.size)) p.block = true := fun p hp => by simpa using hlt p hp
  have hW0 := hW
  obtain ⟨pa, pv, hA, hV, hps, hz, hn⟩ := hW
  have hV' : gs = [] ∧ pv = [] := by
    rw [hv] at hV
    cases gs <;> simp [DataW.TrodVars] at hV
    exact ⟨rfl, hV⟩
  obtain ⟨rfl, rfl⟩ := hV'
  rw [List.append_nil] at hps
  subst hps
  have hA' : ∀ sp : Nat → Bool, (∀ p ∈ before, sp p.block = true) → DataW.TrodAll enc P W' 0 sp true f.params.toList args.toList (s.fn H (ds ++ [])).args before := fun sp hs => by
    rw [hargs]
    exact trodAll_stays hl hA hread (fun x hx => hb.same (hlt x hx)) hs
  have hres' : ∀ (b : Nat) (sp : Nat → Bool) (hd : Bool), DataW.TrodAll enc P W' b sp hd f.resultTypes.toList ((Value.bool true).resultList f.resultTypes.size) (s.fn H (ds ++ [])).results [] := fun b sp hd => by
    rw [hres, hR]; exact trodAll_cons_mk (p := []) (p' := []) (shut_bool hB _) trodAll_mk0
  have hvars' : ∀ sp : Nat → Bool, DataW.TrodVars enc P W' sp s.vars (s.fn H (ds ++ [])).vars [] := fun sp => by rw [hv, hvars]; rfl
  refine ⟨ds, [], before, [], before, [], hW0, hres' _ _ _, hA' _ hold, hvars' _, World.keptBut_mono (fun p hp => ⟨hp, Or.inr (Or.inl hp)⟩) (hb.frame (· ∈ before)), fun h => by cases h⟩
theorem mapM_rows {m : Nat} {e : TypeId} {ks : List Ck} (ih : ∀ cs (x : DataW H × List MemPlace), DataW.trod enc P w base spare held m e cs = some x → Cells ks cs ∧ x.2 = []) :
    ∀ (k : Nat) (cs : List Value) (ys : List (DataW H × List MemPlace)), cs.length = k * ks.length →
      (List.range k).mapM (fun i => DataW.trod enc P w base spare held m e ((cs.drop (i * ks.length)).take ks.length)) = some ys →
      Cells (List.replicate k ks).flatten cs ∧ ys.flatMap (·.2) = []
  | 0, cs, ys, hl, h => by
    simp at hl h
    subst hl h
    exact ⟨rfl, rfl⟩
  | k + 1, cs, ys, hl, h => by
    rw [List.range_succ_eq_map, List.mapM_cons, List.mapM_map] at h
    simp only [bind, Option.bind_eq_some_iff, pure, Option.some.injEq] at h
    obtain ⟨y, hy, ys', hys, rfl⟩ := h
    have h0 := ih _ _ hy
    have q : (fun i : Nat => DataW.trod enc P w base spare held m e ((cs.drop (i.succ * ks.length)).take ks.length)) = (fun i => DataW.trod enc P w base spare held m e (((cs.drop ks.length).drop (i * ks.length)).take ks.length)) := by
      funext i
      rw [List.drop_drop, Nat.succ_mul, Nat.add_comm]
    have hys' : (List.range k).mapM (fun i => DataW.trod enc P w base spare held m e (((cs.drop ks.length).drop (i * ks.length)).take ks.length)) = some ys' := by
      rw [← q]; exact hys
    have hr := mapM_rows ih k (cs.drop ks.length) ys' (by rw [List.length_drop, hl, Nat.succ_mul]; omega) hys'
    constructor
    · rw [List.replicate_succ, List.flatten_cons]
      have := Cells.append h0.1 hr.1
      simpa using this
    · rw [List.flatMap_cons, h0.2, hr.2]; rfl
theorem mapM_fields {m : Nat} {g : TypeId → Option (List Ck)} (ih : ∀ t ks, g t = some ks → ∀ cs (x : DataW H × List MemPlace), DataW.trod enc P w base spare held m t cs = some x → Cells ks cs ∧ x.2 = []) :
    ∀ (fs : List Field) (off : Nat) (ks : List Ck) (cs : List Value) (ys : List (DataW H × List MemPlace)), fieldCells P g off fs = some ks → (cs.drop off).length = ks.length →
      fs.mapM (fun f => DataW.trod enc P w base spare held m f.type ((cs.drop f.offset).take (P.cellsOf f.type))) = some ys →
      Cells ks (cs.drop off) ∧ ys.flatMap (·.2) = []
  | [], off, ks, cs, ys, hk, hl, h => by
    simp [fieldCells] at hk
    subst hk
    simp at h
    subst h
    exact ⟨List.length_eq_zero_iff.1 hl, rfl⟩
  | f :: fs, off, ks, cs, ys, hk, hl, h => by
    unfold fieldCells at hk
    split at hk
    · rename_i k0 hg
      split at hk
      · rename_i hc
        simp only [Option.map_eq_some_iff] at hk
        obtain ⟨rest, hrest, rfl⟩ := hk
        rw [List.mapM_cons] at h
        simp only [bind, Option.bind_eq_some_iff, pure, Option.some.injEq] at h
        obtain ⟨y, hy, ys', hys, rfl⟩ := h
        have h0 := ih _ _ hg _ _ hy
        rw [hc.1, hc.2] at h0
        have hl' : (cs.drop (off + k0.length)).length = rest.length := by
          rw [← List.drop_drop, List.length_drop, hl, List.length_append]; omega
        have hr := mapM_fields ih fs (off + k0.length) rest cs ys' hrest hl' hys
        constructor
        · have := Cells.append h0.1 hr.1
          rw [← List.drop_drop, List.take_append_drop] at this
          exact this
        · rw [List.flatMap_cons, h0.2, hr.2]; rfl
      · cases hk
    · cases hk
/-- a plain type's reading: its cells hold what they should, and it leads nowhere -/
theorem plain_cells : ∀ (n : Nat) (t : TypeId) (ks : List Ck), plainCells P n t = some ks → ∀ (fuel : Nat) (cs : List Value) (x : DataW H × List MemPlace), DataW.trod enc P w base spare held fuel t cs = some x → Cells ks cs ∧ x.2 = []
  | 0, t, ks, h, _, _, _, _ => by simp [plainCells] at h
  | n + 1, t, ks, h, fuel, cs, x, hx => by
    unfold plainCells at h
    split at h
    · rename_i k hu
      simp only [Option.some.injEq] at h; subst h
      obtain ⟨a, rfl, rfl, wa⟩ := DataW.trod_int hu hx
      exact ⟨⟨a, [], rfl, wa, rfl⟩, rfl⟩
    · rename_i hu
      simp only [Option.some.injEq] at h; subst h
      obtain ⟨b, rfl, rfl⟩ := DataW.trod_bool hu hx
      exact ⟨⟨b, [], rfl, rfl⟩, rfl⟩
    · rename_i fs hu
      split at h
      · rename_i k0 hk
        split at h
        · rename_i hc
          simp only [Option.some.injEq] at h; subst h
          cases fuel with
          | zero => simp [DataW.trod] at hx
          | succ m =>
            rw [DataW.trod_step] at hx
            unfold DataW.trodStep at hx
            simp only [hu] at hx
            split at hx
            · rename_i hlen
              simp only [Option.map_eq_some_iff] at hx
              obtain ⟨ys, hys, rfl⟩ := hx
              have := mapM_fields (fun t ks hg cs x hx => plain_cells n t ks hg m cs x hx) fs.toList 0 k0 cs ys hk (by rw [List.drop_zero, hlen, hc]) hys
              rw [List.drop_zero] at this
              exact this
            · cases hx
        · cases h
      · cases h
    · rename_i m e hu
      split at h
      · rename_i k0 hk
        split at h
        · rename_i hc
          simp only [Option.some.injEq] at h; subst h
          cases fuel with
          | zero => simp [DataW.trod] at hx
          | succ q =>
            rw [DataW.trod_step] at hx
            unfold DataW.trodStep at hx
            simp only [hu] at hx
            split at hx
            · rename_i hlen
              simp only [Option.map_eq_some_iff] at hx
              obtain ⟨ys, hys, rfl⟩ := hx
              rw [hc.1] at hys
              exact mapM_rows (fun cs x hx => plain_cells n e k0 hk q cs x hx) m cs ys (by rw [hlen, hc.2]) hys
            · cases hx
        · cases h
      · cases h
    · cases h
/-- a plain struct or array by value, opened: its cells -/
theorem open_plain {r : Reach} {b0 : Nat} {t : TypeId} {n : Nat} {ks : List Ck} {v : Value} {d : DataW H} {p : List MemPlace} (hp : plainCells P n t = some ks) (hk : (∃ fs, P.underlying t = some (.struct fs)) ∨ ∃ m e, P.underlying t = some (.array m e))
    (hv : Value.okWide P w r b0 t v) (h : DataW.Trod enc P w base spare held t v d p) :
    ∃ cs : Array Value, v = .agg cs ∧ Cells ks cs.toList ∧ p = [] := by
  have hcs : ∃ cs : Array Value, v = .agg cs := by
    rcases hk with ⟨fs, hu⟩ | ⟨m, e, hu⟩
    · simp only [Value.okWide, hu] at hv
      obtain ⟨cs, rfl, _⟩ := hv
      exact ⟨cs, rfl⟩
    · simp only [Value.okWide, hu] at hv
      obtain ⟨cs, rfl, _⟩ := hv
      exact ⟨cs, rfl⟩
  obtain ⟨cs, rfl⟩ := hcs
  obtain ⟨fuel, hf⟩ := h
  have := plain_cells n t ks hp fuel _ _ hf
  exact ⟨cs, rfl, by simpa [Value.cells] using this.1, this.2⟩
end
end Go.Proofs.YtpbgniffjlcbhaaDoor
