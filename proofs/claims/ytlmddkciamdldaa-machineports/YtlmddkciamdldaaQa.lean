import Derived.Below
import Derived.BigQuiet
import Derived.Carry
import Derived.ChangeSame
import Derived.Deep.Cut
import Derived.Deep.Draws
import Derived.Deep.MidRow
import Derived.Deep.RegionHeld3
import Derived.Deep.WholeRow
import Derived.IntWalk
import Derived.Laws.AppendOwnNone
import Derived.Laws.BitsAllLaws
import Derived.Laws.CopyOwn
import Derived.Laws.CopyRow
import Derived.Laws.StructEq
import Derived.Lib.Hide
import Derived.LoopTactic
import Derived.OneCell
import Derived.OpenShut
import Derived.RowKit
import Derived.RowKit3
import Derived.StillTailTactics
import Derived.Test.YtlmddkciamdldaaRows
import Derived.WalkKit
import Derived.WalkLawsBesides
import Derived.WalkSpells
import Derived.WideShapes
namespace Go.Proofs.Ytlmddkciamdldaa
abbrev eD (n : Nat) : Edge := { on := n, ground := Ground.data }
abbrev eP (n : Nat) : Edge := { on := n, ground := Ground.phase }
abbrev eC (n : Nat) : Edge := { on := n, ground := Ground.chain }
abbrev eG (n : Nat) : Edge := { on := n, ground := Ground.guard }
abbrev eL (n : Nat) : Edge := { on := n, ground := Ground.gcOnly Departure.lateStores }
abbrev eT (n : Nat) : Edge := { on := n, ground := Ground.textOnly Departure.lateStores }
end Go.Proofs.Ytlmddkciamdldaa
/-
  The frame of a law, once for all: what is plain among the arguments, opened cell by cell; that each argument reads behind the call as it did; the row's last step. No Go text is named here.
-/
namespace Go.Proofs.Ytlmddkciamdldaa
open Go.ChangeShapes Go.WideShapes Go.RowKit
set_option linter.unusedVariables false
set_option linter.unusedSimpArgs false
set_option maxRecDepth 100000

/-- what a cell of plain data holds -/
inductive Ck where
  | int (k : IntKind)
  | bool
/-- the cells of a struct's fields, which must lie one behind the other -/
def fieldCells (P : Program) (g : TypeId → Option (List Ck)) : Nat → List Field → Option (List Ck)
  | _, [] => some []
  | off, f :: fs =>
    match g f.type with
    | some ks => if f.offset = off ∧ P.cellsOf f.type = ks.length then (fieldCells P g (off + ks.length) fs).map (ks ++ ·) else none
    | none => none
/-- the cells of a plain type: numbers and bools, structs and arrays of them -/
def plainCells (P : Program) : Nat → TypeId → Option (List Ck)
  | 0, _ => none
  | n + 1, t =>
    match P.underlying t with
    | some (.int k) => some [.int k]
    | some .bool => some [.bool]
    | some (.struct fs) => match fieldCells P (plainCells P n) 0 fs.toList with
      | some ks => if P.cellsOf t = ks.length then some ks else none
      | none => none
    | some (.array m e) => match plainCells P n e with
      | some ks => if P.cellsOf e = ks.length ∧ P.cellsOf t = m * ks.length then some (List.replicate m ks).flatten else none
      | none => none
    | _ => none
/-- the cells hold what they should -/
def Cells : List Ck → List Value → Prop
  | [], cs => cs = []
  | .int k :: ks, cs => ∃ a r, cs = .int k a :: r ∧ (Lit.int k a).wf = true ∧ Cells ks r
  | .bool :: ks, cs => ∃ b r, cs = .bool b :: r ∧ Cells ks r
theorem Cells.len : ∀ {ks : List Ck} {cs : List Value}, Cells ks cs → cs.length = ks.length
  | [], cs, h => by rw [show cs = [] from h]; rfl
  | .int k :: ks, cs, h => by obtain ⟨a, r, rfl, _, hr⟩ := h; simp [Cells.len hr]
  | .bool :: ks, cs, h => by obtain ⟨a, r, rfl, hr⟩ := h; simp [Cells.len hr]
theorem Cells.append : ∀ {ks ks' : List Ck} {cs cs' : List Value}, Cells ks cs → Cells ks' cs' → Cells (ks ++ ks') (cs ++ cs')
  | [], ks', cs, cs', h, h' => by rw [show cs = [] from h]; exact h'
  | .int k :: ks, ks', cs, cs', h, h' => by obtain ⟨a, r, rfl, hw, hr⟩ := h; exact ⟨a, r ++ cs', rfl, hw, Cells.append hr h'⟩
  | .bool :: ks, ks', cs, cs', h, h' => by obtain ⟨a, r, rfl, hr⟩ := h; exact ⟨a, r ++ cs', rfl, Cells.append hr h'⟩

section
variable {H : Type} {enc : TypeId × Value → H} {P : Program} {w : World} {base : Nat} {spare : Nat → Bool} {held : Bool}
theorem trodAll_stays (hl : laidOutB P = true) {W W' : World} {sp : Nat → Bool} : ∀ {ts : List TypeId} {vs : List Value} {ds : List (DataW H)} {ps : List MemPlace},
    DataW.TrodAll enc P W 0 (fun _ => true) true ts vs ds ps → (∀ t ∈ ts, P.readableRec t = true ∧ t < P.types.size) → (∀ p ∈ ps, W.sameAt W' p) → (∀ p ∈ ps, sp p.block = true) →
    DataW.TrodAll enc P W' 0 sp true ts vs ds ps
  | [], vs, ds, ps, h, _, _, _ => by obtain ⟨rfl, rfl, rfl⟩ := trodAll_nil h; exact trodAll_mk0
  | t :: ts, vs, ds, ps, h, ht, hsame, hs => by
    obtain ⟨v, vs', d, ds', p, q, rfl, rfl, rfl, h0, hr⟩ := trodAll_cons h
    have h1 := ht t List.mem_cons_self
    exact trodAll_cons_mk (WideElems.Trod_stays hl h1.1 h1.2 h0 (fun x hx => hsame x (List.mem_append_left _ hx)) (fun x hx => hs x (List.mem_append_left _ hx)))
      (trodAll_stays hl hr (fun t' h' => ht t' (List.mem_cons_of_mem _ h')) (fun x hx => hsame x (List.mem_append_right _ hx)) (fun x hx => hs x (List.mem_append_right _ hx)))
/-- the row's last step of a law: it answered true, and below the heap's old size nothing has turned -/
theorem post_law {f : Func} {s : ChangeSpec} {B : TypeId} {apart fresh handsOn : Bool} {W W' : World} {args : Array Value} {ds gs : List (DataW H)} {before : List MemPlace}
    (hl : laidOutB P = true) (hv : s.vars = []) (hB : P.underlying B = some .bool) (hR : f.resultTypes = #[B]) (hread : ∀ t ∈ f.params.toList, P.readableRec t = true ∧ t < P.types.size)
    (hW : DataW.Whole enc P f.params.toList s.vars apart W args.toList ds gs before)
    (hres : (s.fn H (ds ++ gs)).results = [.lit (.bool true)]) (hargs : (s.fn H (ds ++ gs)).args = ds) (hvars : (s.fn H (ds ++ gs)).vars = [])
    (hb : Below W.heap.size W W') :
    s.post enc P f apart fresh handsOn false W args (.bool true) W' := by
  have hlt : ∀ p ∈ before, p.block < W.heap.size := fun p hp => hW.lt p hp
  have hold : ∀ p ∈ before, (fun b => decide (b < W.heap.size)) p.block = true := fun p hp => by simpa using hlt p hp
  have hW0 := hW
  obtain ⟨pa, pv, hA, hV, hps, hz, hn⟩ := hW
  have hV' : gs = [] ∧ pv = [] := by
    rw [hv] at hV
    cases gs <;> simp [DataW.TrodVars] at hV
    exact ⟨rfl, hV⟩
  obtain ⟨rfl, rfl⟩ := hV'
  rw [List.append_nil] at hps
  subst hps
  have hA' : ∀ sp : Nat → Bool, (∀ p ∈ before, sp p.block = true) → DataW.TrodAll enc P W' 0 sp true f.params.toList args.toList (s.fn H (ds ++ [])).args before := fun sp hs => by
    rw [hargs]
    exact trodAll_stays hl hA hread (fun x hx => hb.same (hlt x hx)) hs
  have hres' : ∀ (b : Nat) (sp : Nat → Bool) (hd : Bool), DataW.TrodAll enc P W' b sp hd f.resultTypes.toList ((Value.bool true).resultList f.resultTypes.size) (s.fn H (ds ++ [])).results [] := fun b sp hd => by
    rw [hres, hR]; exact trodAll_cons_mk (p := []) (p' := []) (shut_bool hB _) trodAll_mk0
  have hvars' : ∀ sp : Nat → Bool, DataW.TrodVars enc P W' sp s.vars (s.fn H (ds ++ [])).vars [] := fun sp => by rw [hv, hvars]; rfl
  refine ⟨ds, [], before, [], before, [], hW0, hres' _ _ _, hA' _ hold, hvars' _, World.keptBut_mono (fun p hp => ⟨hp, Or.inr (Or.inl hp)⟩) (hb.frame (· ∈ before)), fun h => by cases h⟩
theorem mapM_rows {m : Nat} {e : TypeId} {ks : List Ck} (ih : ∀ cs (x : DataW H × List MemPlace), DataW.trod enc P w base spare held m e cs = some x → Cells ks cs ∧ x.2 = []) :
    ∀ (k : Nat) (cs : List Value) (ys : List (DataW H × List MemPlace)), cs.length = k * ks.length →
      (List.range k).mapM (fun i => DataW.trod enc P w base spare held m e ((cs.drop (i * ks.length)).take ks.length)) = some ys →
      Cells (List.replicate k ks).flatten cs ∧ ys.flatMap (·.2) = []
  | 0, cs, ys, hl, h => by
    simp at hl h
    subst hl h
    exact ⟨rfl, rfl⟩
  | k + 1, cs, ys, hl, h => by
    rw [List.range_succ_eq_map, List.mapM_cons, List.mapM_map] at h
    simp only [bind, Option.bind_eq_some_iff, pure, Option.some.injEq] at h
    obtain ⟨y, hy, ys', hys, rfl⟩ := h
    have h0 := ih _ _ hy
    have q : (fun i : Nat => DataW.trod enc P w base spare held m e ((cs.drop (i.succ * ks.length)).take ks.length)) = (fun i => DataW.trod enc P w base spare held m e (((cs.drop ks.length).drop (i * ks.length)).take ks.length)) := by
      funext i
      rw [List.drop_drop, Nat.succ_mul, Nat.add_comm]
    have hys' : (List.range k).mapM (fun i => DataW.trod enc P w base spare held m e (((cs.drop ks.length).drop (i * ks.length)).take ks.length)) = some ys' := by
      rw [← q]; exact hys
    have hr := mapM_rows ih k (cs.drop ks.length) ys' (by rw [List.length_drop, hl, Nat.succ_mul]; omega) hys'
    constructor
    · rw [List.replicate_succ, List.flatten_cons]
      have := Cells.append h0.1 hr.1
      simpa using this
    · rw [List.flatMap_cons, h0.2, hr.2]; rfl
theorem mapM_fields {m : Nat} {g : TypeId → Option (List Ck)} (ih : ∀ t ks, g t = some ks → ∀ cs (x : DataW H × List MemPlace), DataW.trod enc P w base spare held m t cs = some x → Cells ks cs ∧ x.2 = []) :
    ∀ (fs : List Field) (off : Nat) (ks : List Ck) (cs : List Value) (ys : List (DataW H × List MemPlace)), fieldCells P g off fs = some ks → (cs.drop off).length = ks.length →
      fs.mapM (fun f => DataW.trod enc P w base spare held m f.type ((cs.drop f.offset).take (P.cellsOf f.type))) = some ys →
      Cells ks (cs.drop off) ∧ ys.flatMap (·.2) = []
  | [], off, ks, cs, ys, hk, hl, h => by
    simp [fieldCells] at hk
    subst hk
    simp at h
    subst h
    exact ⟨List.length_eq_zero_iff.1 hl, rfl⟩
  | f :: fs, off, ks, cs, ys, hk, hl, h => by
    unfold fieldCells at hk
    split at hk
    · rename_i k0 hg
      split at hk
      · rename_i hc
        simp only [Option.map_eq_some_iff] at hk
        obtain ⟨rest, hrest, rfl⟩ := hk
        rw [List.mapM_cons] at h
        simp only [bind, Option.bind_eq_some_iff, pure, Option.some.injEq] at h
        obtain ⟨y, hy, ys', hys, rfl⟩ := h
        have h0 := ih _ _ hg _ _ hy
        rw [hc.1, hc.2] at h0
        have hl' : (cs.drop (off + k0.length)).length = rest.length := by
          rw [← List.drop_drop, List.length_drop, hl, List.length_append]; omega
        have hr := mapM_fields ih fs (off + k0.length) rest cs ys' hrest hl' hys
        constructor
        · have := Cells.append h0.1 hr.1
          rw [← List.drop_drop, List.take_append_drop] at this
          exact this
        · rw [List.flatMap_cons, h0.2, hr.2]; rfl
      · cases hk
    · cases hk
/-- a plain type's reading: its cells hold what they should, and it leads nowhere -/
theorem plain_cells : ∀ (n : Nat) (t : TypeId) (ks : List Ck), plainCells P n t = some ks → ∀ (fuel : Nat) (cs : List Value) (x : DataW H × List MemPlace), DataW.trod enc P w base spare held fuel t cs = some x → Cells ks cs ∧ x.2 = []
  | 0, t, ks, h, _, _, _, _ => by simp [plainCells] at h
  | n + 1, t, ks, h, fuel, cs, x, hx => by
    unfold plainCells at h
    split at h
    · rename_i k hu
      simp only [Option.some.injEq] at h; subst h
      obtain ⟨a, rfl, rfl, wa⟩ := DataW.trod_int hu hx
      exact ⟨⟨a, [], rfl, wa, rfl⟩, rfl⟩
    · rename_i hu
      simp only [Option.some.injEq] at h; subst h
      obtain ⟨b, rfl, rfl⟩ := DataW.trod_bool hu hx
      exact ⟨⟨b, [], rfl, rfl⟩, rfl⟩
    · rename_i fs hu
      split at h
      · rename_i k0 hk
        split at h
        · rename_i hc
          simp only [Option.some.injEq] at h; subst h
          cases fuel with
          | zero => simp [DataW.trod] at hx
          | succ m =>
            rw [DataW.trod_step] at hx
            unfold DataW.trodStep at hx
            simp only [hu] at hx
            split at hx
            · rename_i hlen
              simp only [Option.map_eq_some_iff] at hx
              obtain ⟨ys, hys, rfl⟩ := hx
              have := mapM_fields (fun t ks hg cs x hx => plain_cells n t ks hg m cs x hx) fs.toList 0 k0 cs ys hk (by rw [List.drop_zero, hlen, hc]) hys
              rw [List.drop_zero] at this
              exact this
            · cases hx
        · cases h
      · cases h
    · rename_i m e hu
      split at h
      · rename_i k0 hk
        split at h
        · rename_i hc
          simp only [Option.some.injEq] at h; subst h
          cases fuel with
          | zero => simp [DataW.trod] at hx
          | succ q =>
            rw [DataW.trod_step] at hx
            unfold DataW.trodStep at hx
            simp only [hu] at hx
            split at hx
            · rename_i hlen
              simp only [Option.map_eq_some_iff] at hx
              obtain ⟨ys, hys, rfl⟩ := hx
              rw [hc.1] at hys
              exact mapM_rows (fun cs x hx => plain_cells n e k0 hk q cs x hx) m cs ys (by rw [hlen, hc.2]) hys
            · cases hx
        · cases h
      · cases h
    · cases h
/-- a plain struct or array by value, opened: its cells -/
theorem open_plain {r : Reach} {b0 : Nat} {t : TypeId} {n : Nat} {ks : List Ck} {v : Value} {d : DataW H} {p : List MemPlace} (hp : plainCells P n t = some ks) (hk : (∃ fs, P.underlying t = some (.struct fs)) ∨ ∃ m e, P.underlying t = some (.array m e))
    (hv : Value.okWide P w r b0 t v) (h : DataW.Trod enc P w base spare held t v d p) :
    ∃ cs : Array Value, v = .agg cs ∧ Cells ks cs.toList ∧ p = [] := by
  have hcs : ∃ cs : Array Value, v = .agg cs := by
    rcases hk with ⟨fs, hu⟩ | ⟨m, e, hu⟩
    · simp only [Value.okWide, hu] at hv
      obtain ⟨cs, rfl, _⟩ := hv
      exact ⟨cs, rfl⟩
    · simp only [Value.okWide, hu] at hv
      obtain ⟨cs, rfl, _⟩ := hv
      exact ⟨cs, rfl⟩
  obtain ⟨cs, rfl⟩ := hcs
  obtain ⟨fuel, hf⟩ := h
  have := plain_cells n t ks hp fuel _ _ hf
  exact ⟨cs, rfl, by simpa [Value.cells] using this.1, this.2⟩
end
end Go.Proofs.Ytlmddkciamdldaa

/-
  A world that has grown: nothing that was there has turned, and nothing is frozen that was not: what the contracts of functions that make memory say of the world.
-/
namespace Go.Proofs.Ytlmddkciamdldaa
open Go.RowKit
set_option linter.unusedVariables false
set_option linter.unusedSimpArgs false
set_option maxRecDepth 100000

structure Kept (w w' : World) : Prop where
  below : Below w.heap.size w w'
  froze : ∀ a, w'.frozen? a = w.frozen? a
theorem Kept.refl (w : World) : Kept w w := ⟨Below.refl _ _, fun _ => rfl⟩
theorem Kept.trans {a b c : World} (h : Kept a b) (k : Kept b c) : Kept a c :=
  ⟨h.below.trans (k.below.mono h.below.size), fun x => (k.froze x).trans (h.froze x)⟩
theorem Kept.drew {a b : World} (h : Kept a b) : Kept a b.drew := ⟨h.below.drew, h.froze⟩
theorem Kept.drewN {a b : World} (h : Kept a b) (n : Nat) : Kept a (b.drewN n) := ⟨⟨h.below.os, h.below.tape, h.below.output, h.below.size, h.below.block⟩, h.froze⟩
theorem Kept.alloc {a b : World} (h : Kept a b) (c : Array Value) (t : TypeId) : Kept a (b.alloc (.cells c t)) :=
  ⟨h.below.alloc h.below.size _, fun x => (frozen?_alloc_cells _ _ _ x).trans (h.froze x)⟩
theorem Kept.setCell {a b : World} (h : Kept a b) {p : Addr} (hp : a.heap.size ≤ p.block) (v : Value) : Kept a (b.setCell p v) :=
  ⟨h.below.setCell hp v, fun x => (World.frozen?_setCell _ _ _ _).trans (h.froze x)⟩
theorem Kept.grown {a b : World} (h : Kept a b) : Grown a b := ⟨h.below.frame _, h.froze, h.below.size⟩
theorem Kept.cell {a b : World} (h : Kept a b) {p : Addr} (hp : p.block < a.heap.size) : b.cell? p = a.cell? p := h.below.cell hp
theorem Kept.size {a b : World} (h : Kept a b) : a.heap.size ≤ b.heap.size := h.below.size
theorem Kept.block {a b : World} (h : Kept a b) {k : Nat} {o : Obj} (hk : a.heap[k]? = some o) : b.heap[k]? = some o := (h.below.block k (lt_of_block hk)).trans hk
/-- the same from the block B on: blocks below B are as they were -/
structure KeptB (B : Nat) (w w' : World) : Prop where
  below : Below B w w'
  froze : ∀ a, w'.frozen? a = w.frozen? a
theorem KeptB.refl (B : Nat) (w : World) : KeptB B w w := ⟨Below.refl _ _, fun _ => rfl⟩
theorem KeptB.trans {B : Nat} {a b c : World} (h : KeptB B a b) (k : KeptB B b c) : KeptB B a c :=
  ⟨h.below.trans k.below, fun x => (k.froze x).trans (h.froze x)⟩
theorem KeptB.drew {B : Nat} {a b : World} (h : KeptB B a b) : KeptB B a b.drew := ⟨h.below.drew, h.froze⟩
theorem KeptB.setCell {B : Nat} {a b : World} (h : KeptB B a b) {p : Addr} (hp : B ≤ p.block) (v : Value) : KeptB B a (b.setCell p v) :=
  ⟨h.below.setCell hp v, fun x => (World.frozen?_setCell _ _ _ _).trans (h.froze x)⟩
theorem Kept.transB {B : Nat} {a b c : World} (h : Kept a b) (k : KeptB B b c) (hB : a.heap.size ≤ B) : Kept a c :=
  ⟨h.below.trans (k.below.mono hB), fun x => (k.froze x).trans (h.froze x)⟩
theorem heap_alloc_last (w : World) (o : Obj) : (w.alloc o).heap[w.heap.size]? = some o := by
  show (w.heap.push o)[w.heap.size]? = _
  rw [Array.getElem?_push, if_pos rfl]
theorem heap_alloc_keep {w : World} {b : Nat} {o : Obj} (h : w.heap[b]? = some o) (o' : Obj) : (w.alloc o').heap[b]? = some o :=
  (Below.heap_alloc w o' b (lt_of_block h)).trans h
theorem heap_setCell_keep {w : World} {b : Nat} {o : Obj} (h : w.heap[b]? = some o) {p : Addr} (hp : b ≠ p.block) (v : Value) : (w.setCell p v).heap[b]? = some o :=
  (Below.heap_setCell w p v b hp).trans h
theorem r1 {k : IntKind} {a b : Int} {w : World} (h : a = b) : Ending.returned (.int k a) = .returned (.int k b) ∧ w = w := ⟨by rw [h], rfl⟩
theorem r1b {a b : Bool} {w : World} (h : a = b) : Ending.returned (.bool a) = .returned (.bool b) ∧ w = w := ⟨by rw [h], rfl⟩
theorem r1k {k : IntKind} {a b : Int} {w w' : World} (h : a = b) (hk : Kept w w') : Ending.returned (.int k a) = .returned (.int k b) ∧ Kept w w' := ⟨by rw [h], hk⟩
theorem r1bk {a b : Bool} {w w' : World} (h : a = b) (hk : Kept w w') : Ending.returned (.bool a) = .returned (.bool b) ∧ Kept w w' := ⟨by rw [h], hk⟩
end Go.Proofs.Ytlmddkciamdldaa

/-
  Blocks of memory that are known whole, by cells that are whatever: what a load, a store and a build of a struct do to them. No Go text is named here.
-/
namespace Go.Proofs.Ytlmddkciamdldaa
open Go.RowKit
set_option linter.unusedVariables false
set_option linter.unusedSimpArgs false
set_option maxRecDepth 100000
/-- the block B holds n cells -/
def HasN (B n : Nat) (t : TypeId) (w : World) : Prop := ∃ cs : Array Value, cs.size = n ∧ w.heap[B]? = some (.cells cs t (0, 0))
/-- the block B holds the cells cs -/
def Has (B : Nat) (cs : Array Value) (t : TypeId) (w : World) : Prop := w.heap[B]? = some (.cells cs t (0, 0))
theorem Has.new (cs : Array Value) (t : TypeId) (w : World) : Has w.heap.size cs t (w.alloc (.cells cs t)) := heap_alloc_last _ _
theorem Has.new1 (cs : Array Value) (t : TypeId) (w : World) (o : Obj) : Has (w.heap.size + 1) cs t ((w.alloc o).alloc (.cells cs t)) := by
  have := Has.new cs t (w.alloc o)
  rwa [show (w.alloc o).heap.size = w.heap.size + 1 by simp] at this
theorem Has.new2 (cs : Array Value) (t : TypeId) (w : World) (o o' : Obj) : Has (w.heap.size + 2) cs t (((w.alloc o).alloc o').alloc (.cells cs t)) := by
  have := Has.new cs t ((w.alloc o).alloc o')
  rwa [show ((w.alloc o).alloc o').heap.size = w.heap.size + 2 by simp] at this
theorem Has.alloc {B : Nat} {cs : Array Value} {t : TypeId} {w : World} (h : Has B cs t w) (o : Obj) : Has B cs t (w.alloc o) := heap_alloc_keep h _
theorem Has.drew {B : Nat} {cs : Array Value} {t : TypeId} {w : World} (h : Has B cs t w) : Has B cs t w.drew := h
theorem Has.kept {B : Nat} {cs : Array Value} {t : TypeId} {w w' : World} (h : Has B cs t w) (hK : Kept w w') : Has B cs t w' := hK.block h
theorem Has.other {B : Nat} {cs : Array Value} {t : TypeId} {w : World} (h : Has B cs t w) {p : Addr} (hp : B ≠ p.block) (v : Value) : Has B cs t (w.setCell p v) := heap_setCell_keep h hp v
theorem Has.set {B : Nat} {cs : Array Value} {t : TypeId} {w : World} (h : Has B cs t w) (j : Nat) (v : Value) : Has B (cs.setIfInBounds j v) t (w.setCell ⟨B, j, none⟩ v) := heap_setCell_same w B j cs t v h
theorem Has.row {B : Nat} {cs : Array Value} {t : TypeId} {w : World} (h : Has B cs t w) (cs' : Array Value) : Has B cs' t (w.setRow B cs') := setRow_heap w B cs _ t _ h
theorem Has.rowOther {B B' : Nat} {cs : Array Value} {t : TypeId} {w : World} (h : Has B cs t w) (hB : B ≠ B') (cs' : Array Value) : Has B cs t (w.setRow B' cs') := (setRow_other w B' B cs' hB).trans h
theorem Has.hasN {B : Nat} {cs : Array Value} {t : TypeId} {w : World} (h : Has B cs t w) : HasN B cs.size t w := ⟨cs, rfl, h⟩
theorem HasN.kept {B n : Nat} {t : TypeId} {w w' : World} (h : HasN B n t w) (hK : Kept w w') : HasN B n t w' := by obtain ⟨cs, e, h⟩ := h; exact ⟨cs, e, hK.block h⟩
theorem Has.cell {B : Nat} {cs : Array Value} {t : TypeId} {w : World} (h : Has B cs t w) (j : Nat) (v : Value) (hj : cs[j]? = some v) : w.cell? ⟨B, j, none⟩ = some v := (cell_of_row w B j cs t _ h).trans hj
theorem Has.free {B : Nat} {cs : Array Value} {t : TypeId} {w : World} (h : Has B cs t w) (j : Nat) : w.frozen? ⟨B, j, none⟩ = false := frozen_of_row w B j cs t h
theorem Has.lt {B : Nat} {cs : Array Value} {t : TypeId} {w : World} (h : Has B cs t w) : B < w.heap.size := lt_of_block h
theorem Has.range {B : Nat} {cs : Array Value} {t : TypeId} {w : World} (h : Has B cs t w) (o n : Nat) : w.rangeAt B o (cs.extract o (o + n)).toList := World.rangeAt_of_block h o n
theorem Kept.row {a b : World} (h : Kept a b) {B : Nat} (hB : a.heap.size ≤ B) (cs : Array Value) : Kept a (b.setRow B cs) := by
  refine ⟨⟨h.below.os, h.below.tape, h.below.output, ?_, ?_⟩, ?_⟩
  · simp [World.setRow]; exact h.below.size
  · intro k hk
    rw [setRow_other b B k cs (by omega)]; exact h.below.block k hk
  · intro x
    rw [← h.froze x]
    simp only [World.frozen?, World.setRow, Array.getElem?_modify]
    by_cases e : B = x.block
    · subst e
      simp only [if_true]
      generalize b.heap[x.block]? = o
      cases o with
      | none => rfl
      | some o => cases o <;> rfl
    · simp [e]
section
variable {P : Program} {ops : Array Oper} {rest : List Oper} {o : Oper} {a : Act} {Q : Exit → Act → World → Prop}
/-- a whole row out of a block that is known -/
theorem load_has {w : World} (hgd : o.guard = none) (ty : TypeId) (x : Operand) (ho : o.op = .load ty x) (g : Nat) (hx : a.eval x = .pointer (some ⟨g, 0, none⟩)) {t : TypeId} {cs : Array Value} {d : TypeDesc} (hg : Has g cs t w)
    (hu : P.underlying ty = some d) (hd : (match d with | .struct _ | .array _ _ => true | _ => false) = true) (hi : (P.info? ty).map (·.size) = some cs.size)
    (h : wpList P ops Q rest (a.put o.dst (.agg cs)) w) : wpList P ops Q (o :: rest) a w := wpList_load_row hgd ty x ho g hx t cs (0, 0) d hg hu hd hi h
/-- a part of a row -/
theorem load_part {w : World} (hgd : o.guard = none) (ty : TypeId) (x : Operand) (ho : o.op = .load ty x) (g j : Nat) (hx : a.eval x = .pointer (some ⟨g, j, none⟩)) {t : TypeId} {cs : Array Value} (ps : Array Value) {d : TypeDesc} (hg : Has g cs t w)
    (hp : cs.extract j (j + ps.size) = ps) (hu : P.underlying ty = some d) (hd : d.isRow = true) (hi : (P.info? ty).map (·.size) = some ps.size)
    (h : wpList P ops Q rest (a.put o.dst (.agg ps)) w) : wpList P ops Q (o :: rest) a w :=
  wpList_load_mid hgd ty x ho g j hx ps.toList d (by have := hg.range j ps.size; rw [hp] at this; exact this) hu hd (by simpa using hi) (by simpa using h)
/-- into the block that was made last -/
theorem store_last {w : World} (hgd : o.guard = none) (ty : TypeId) (x y : Operand) (ho : o.op = .store ty x y) (g : Nat) (cells : Array Value) (hx : a.eval x = .pointer (some ⟨g, 0, none⟩)) (hy : a.eval y = .agg cells)
    {t : TypeId} {old : Array Value} (hg : g = w.heap.size) (hi : (P.info? ty).map (·.size) = some cells.size) (hold : old.size = cells.size) (h1 : cells.all (·.oneCell') = true)
    (h : wpList P ops Q rest (a.put o.dst undef) (w.alloc (.cells cells t))) : wpList P ops Q (o :: rest) a (w.alloc (.cells old t)) := by
  subst hg
  exact wpList_store_row hgd ty x y ho _ cells hx hy t old (heap_alloc_last _ _) hi hold h1 (by rw [World.setRow_alloc_new]; exact h)
/-- into a block that is known -/
theorem store_has {w : World} (hgd : o.guard = none) (ty : TypeId) (x y : Operand) (ho : o.op = .store ty x y) (g : Nat) (cells : Array Value) (hx : a.eval x = .pointer (some ⟨g, 0, none⟩)) (hy : a.eval y = .agg cells)
    {t : TypeId} {old : Array Value} (hg : Has g old t w) (hi : (P.info? ty).map (·.size) = some cells.size) (hold : old.size = cells.size) (h1 : cells.all (·.oneCell') = true)
    (h : wpList P ops Q rest (a.put o.dst undef) (w.setRow g cells)) : wpList P ops Q (o :: rest) a w :=
  wpList_store_row hgd ty x y ho g cells hx hy t old hg hi hold h1 h
/-- the zero cells of a struct's type, and the places of its fields -/
def shapeOf (P : Program) (t : TypeId) : Option (Array Value × List (Nat × Nat)) :=
  match P.info? t, P.underlying t with
  | some it, some (.struct fields) =>
    match it.zero, fields.toList.mapM (fun f => (P.info? f.type).map fun i => (f.offset, i.size)) with
    | some z, some places => some (z.cells, places)
    | _, _ => none
  | _, _ => none
theorem built_of {P : Program} {t : TypeId} {z : Array Value} {places : List (Nat × Nat)} (h : shapeOf P t = some (z, places)) (parts : List (Nat × Value)) :
    P.built t parts = Instr.fill (places.toArray[·]?) z parts := by
  unfold shapeOf at h
  unfold Program.built
  cases h1 : P.info? t with
  | none => simp [h1] at h
  | some it =>
    cases h2 : P.underlying t with
    | none => simp [h1, h2] at h
    | some d =>
      cases d <;> simp only [h1, h2] at h ⊢ <;> try (cases h; done)
      split at h
      · rename_i z' p' e1 e2
        simp only [Option.some.injEq, Prod.mk.injEq] at h
        obtain ⟨rfl, rfl⟩ := h
        simp only [e1, e2]
      · cases h
/-- a struct or array put together -/
theorem build_has {w : World} (hgd : o.guard = none) (t : TypeId) (parts : Array (Nat × Operand)) (ho : o.op = .build t parts) (cs : Array Value)
    (hf : P.built t (parts.map fun (i, x) => (i, a.eval x)).toList = some cs) (h : wpList P ops Q rest (a.put o.dst (.agg cs)) w) : wpList P ops Q (o :: rest) a w :=
  wpList_build hgd t parts ho (by rw [hf]; rfl) (by rw [hf]; exact h)
/-- the same two as a drawn region asks them -/
theorem exec_load_has {w : World} (ty : TypeId) (x : Operand) (ho : o.op = .load ty x) (g : Nat) (hx : a.eval x = .pointer (some ⟨g, 0, none⟩)) {t : TypeId} {cs : Array Value} {d : TypeDesc} (hg : Has g cs t w)
    (hu : P.underlying ty = some d) (hd : (match d with | .struct _ | .array _ _ => true | _ => false) = true) (hi : (P.info? ty).map (·.size) = some cs.size) :
    (execOp a.eval o).run P w = .ok (.value (.agg cs)) w := by
  unfold execOp
  simp only [ho, hx, Instr.loadAt, Instr.sureAddr, Sem.run_bind, Sem.run_pure, Result.andThen_ok, run_loadVar_row w g t ty cs (0, 0) d hg hu hd hi]
theorem exec_build {w : World} (t : TypeId) (parts : Array (Nat × Operand)) (ho : o.op = .build t parts) (cs : Array Value)
    (hf : P.built t (parts.map fun (i, x) => (i, a.eval x)).toList = some cs) : (execOp a.eval o).run P w = .ok (.value (.agg cs)) w := by
  unfold execOp
  simp only [ho, Sem.run_bind, Sem.run_pure, Result.andThen_ok, run_build w t _ cs hf]
theorem run_sizeOf {P : Program} {e : TypeId} {m : Nat} (hs : (P.info? e).map (·.size) = some m) (w : World) : (sizeOf e).run P w = .ok m w := by
  cases hq : P.info? e with
  | none => simp [hq] at hs
  | some i =>
    have : i.size = m := by simpa [hq] using hs
    simp [sizeOf, typeInfo, hq, this]
theorem run_isAgg {P : Program} {e : TypeId} {d : TypeDesc} (he : P.underlying e = some d) (w : World) : (isAgg e).run P w = .ok d.isRow w := by
  unfold isAgg
  rw [Sem.run_bind, run_underlying he w]
  cases d <;> simp [TypeDesc.isRow]
/-- an array by value, at an index: a cell -/
theorem run_index_cell {P : Program} {t e : TypeId} {n : Nat} {d : TypeDesc} {cs : Array Value} {k : IntKind} {i : Int} {v : Value} (hu : P.underlying t = some (.array n e)) (h0 : 0 ≤ i) (h1 : i < n) (he : P.underlying e = some d) (hd : d.isRow = false)
    (hs : (P.info? e).map (·.size) = some 1) (hc : cs[i.toNat]? = some v) (w : World) : (Instr.index t (.agg cs) (.int k i)).run P w = .ok v w := by
  have ha := run_isAgg he w
  rw [hd] at ha
  simp [Instr.index, asIntOf, Sem.run_bind, run_underlying hu, h0, h1, run_sizeOf hs, part, ha, hc]
/-- an array by value, at an index: a row -/
theorem run_index_row {P : Program} {t e : TypeId} {n m : Nat} {d : TypeDesc} {cs ps : Array Value} {k : IntKind} {i : Int} (hu : P.underlying t = some (.array n e)) (h0 : 0 ≤ i) (h1 : i < n) (he : P.underlying e = some d) (hd : d.isRow = true)
    (hs : (P.info? e).map (·.size) = some m) (hc : cs.extract (i.toNat * m) (i.toNat * m + m) = ps) (w : World) : (Instr.index t (.agg cs) (.int k i)).run P w = .ok (.agg ps) w := by
  have ha := run_isAgg he w
  rw [hd] at ha
  simp [Instr.index, asIntOf, Sem.run_bind, run_underlying hu, h0, h1, run_sizeOf hs, part, ha, hc]
theorem index_cell {w : World} (hgd : o.guard = none) (t : TypeId) (x ix : Operand) (ho : o.op = .index t x ix) (cs : Array Value) (k : IntKind) (i : Int) (hx : a.eval x = .agg cs) (hix : a.eval ix = .int k i) {e : TypeId} {n : Nat} {d : TypeDesc} {v : Value}
    (hu : P.underlying t = some (.array n e)) (h0 : 0 ≤ i) (h1 : i < n) (he : P.underlying e = some d) (hd : d.isRow = false) (hs : (P.info? e).map (·.size) = some 1) (hc : cs[i.toNat]? = some v)
    (h : wpList P ops Q rest (a.put o.dst v) w) : wpList P ops Q (o :: rest) a w :=
  wpList_plain hgd fun _ hK => by
    unfold Oper.wp execOp
    simp only [ho, hx, hix, Sem.run_bind, run_index_cell hu h0 h1 he hd hs hc, Result.andThen_ok, Sem.run_pure]
    exact hK _ _ h
theorem index_row {w : World} (hgd : o.guard = none) (t : TypeId) (x ix : Operand) (ho : o.op = .index t x ix) (cs : Array Value) (k : IntKind) (i : Int) (hx : a.eval x = .agg cs) (hix : a.eval ix = .int k i) {e : TypeId} {n m : Nat} {d : TypeDesc} {ps : Array Value}
    (hu : P.underlying t = some (.array n e)) (h0 : 0 ≤ i) (h1 : i < n) (he : P.underlying e = some d) (hd : d.isRow = true) (hs : (P.info? e).map (·.size) = some m) (hc : cs.extract (i.toNat * m) (i.toNat * m + m) = ps)
    (h : wpList P ops Q rest (a.put o.dst (.agg ps)) w) : wpList P ops Q (o :: rest) a w :=
  wpList_plain hgd fun _ hK => by
    unfold Oper.wp execOp
    simp only [ho, hx, hix, Sem.run_bind, run_index_row hu h0 h1 he hd hs hc, Result.andThen_ok, Sem.run_pure]
    exact hK _ _ h
theorem results_has {fn : Func} {p : Tmp} {ty : TypeId} (h : fn.results = #[.cell p ty]) {tmps : Array Value} {w : World} (g : Nat) {t : TypeId} {cs : Array Value} {d : TypeDesc}
    (hp : tmps.getD p undef = .pointer (some ⟨g, 0, none⟩)) (hg : Has g cs t w)
    (hu : P.underlying ty = some d) (hd : (match d with | .struct _ | .array _ _ => true | _ => false) = true) (hi : (P.info? ty).map (·.size) = some cs.size) :
    (results fn tmps).run P w = .ok (.agg cs) w := results_cell_row h tmps w g t cs (0, 0) d hp hg hu hd hi
theorem results_has2 {fn : Func} {p q : Tmp} {ty : TypeId} (h : fn.results = #[.cell p ty, .tmp q]) {tmps : Array Value} {w : World} (g : Nat) {t : TypeId} {cs : Array Value} {d : TypeDesc}
    (hp : tmps.getD p undef = .pointer (some ⟨g, 0, none⟩)) (hg : Has g cs t w)
    (hu : P.underlying ty = some d) (hd : (match d with | .struct _ | .array _ _ => true | _ => false) = true) (hi : (P.info? ty).map (·.size) = some cs.size) :
    (results fn tmps).run P w = .ok (.tuple #[.agg cs, tmps.getD q undef]) w := by
  have hp' : tmps[p]?.getD undef = .pointer (some ⟨g, 0, none⟩) := by simpa using hp
  simp [results, h, hp', asAddr, run_loadVar_row w g t ty cs (0, 0) d hg hu hd hi]
end
end Go.Proofs.Ytlmddkciamdldaa

/-
  Memories as lists of words: a block that may alone have turned, slices of words, a memory's block; what stores do to them. No Go function is named here.
-/
namespace Go.Proofs.Ytlmddkciamdldaa
open Go.RowKit
variable {tyM : TypeId} {tlM : List Value}
set_option linter.unusedVariables false
set_option linter.unusedSimpArgs false
set_option maxRecDepth 100000
/-- only the block B may have turned -/
structure But (B : Nat) (w w' : World) : Prop where
  os : w'.os = w.os
  tape : w'.tape = w.tape
  output : w'.output = w.output
  size : w.heap.size ≤ w'.heap.size
  block : ∀ k, k < w.heap.size → k ≠ B → w'.heap[k]? = w.heap[k]?
  froze : ∀ a, w'.frozen? a = w.frozen? a
theorem But.refl (B : Nat) (w : World) : But B w w := ⟨rfl, rfl, rfl, Nat.le_refl _, fun _ _ _ => rfl, fun _ => rfl⟩
theorem But.trans {B : Nat} {a b c : World} (h : But B a b) (k : But B b c) : But B a c :=
  ⟨k.os.trans h.os, k.tape.trans h.tape, k.output.trans h.output, Nat.le_trans h.size k.size, fun i hi hB => (k.block i (Nat.lt_of_lt_of_le hi h.size) hB).trans (h.block i hi hB), fun x => (k.froze x).trans (h.froze x)⟩
theorem Kept.but {w w' : World} (h : Kept w w') (B : Nat) : But B w w' :=
  ⟨h.below.os, h.below.tape, h.below.output, h.below.size, fun k hk _ => h.below.block k hk, h.froze⟩
theorem But.drew {B : Nat} {a b : World} (h : But B a b) : But B a b.drew := ⟨h.os, h.tape, h.output, h.size, h.block, h.froze⟩
theorem But.drewN {B : Nat} {a b : World} (h : But B a b) (n : Nat) : But B a (b.drewN n) := ⟨h.os, h.tape, h.output, h.size, h.block, h.froze⟩
theorem But.setCell {B : Nat} {a b : World} (h : But B a b) (j : Nat) (v : Value) : But B a (b.setCell ⟨B, j, none⟩ v) :=
  h.trans ⟨rfl, rfl, rfl, by simp [World.setCell], fun k hk hB => Below.heap_setCell _ _ _ _ hB, fun x => World.frozen?_setCell _ _ _ _⟩
theorem froze_setRow (w : World) (B : Nat) (cs : Array Value) (x : Addr) : (w.setRow B cs).frozen? x = w.frozen? x := by
  simp only [World.frozen?, World.setRow, Array.getElem?_modify]
  by_cases e : B = x.block
  · subst e
    simp only [if_true]
    generalize w.heap[x.block]? = o
    cases o with
    | none => rfl
    | some o => cases o <;> rfl
  · simp [e]
theorem But.setRow {B : Nat} {a b : World} (h : But B a b) (cs : Array Value) : But B a (b.setRow B cs) :=
  h.trans ⟨rfl, rfl, rfl, by simp [World.setRow], fun k hk hB => setRow_other b B k cs hB, froze_setRow b B cs⟩
theorem But.has {B k : Nat} {cs : Array Value} {t : TypeId} {w w' : World} (h : But B w w') (hk : k ≠ B) (hh : Has k cs t w) : Has k cs t w' :=
  (h.block k hh.lt hk).trans hh
/-- what has been there since N blocks, over a step that turns a later block alone -/
theorem KeptB.but {N B : Nat} {a b c : World} (h : KeptB N a b) (k : But B b c) (hB : N ≤ B) (hN : N ≤ b.heap.size) : KeptB N a c :=
  ⟨h.below.trans ⟨k.os, k.tape, k.output, k.size, fun i hi => k.block i (by omega) (by omega)⟩, fun x => (k.froze x).trans (h.froze x)⟩
theorem KeptB.kept {N : Nat} {a b c : World} (h : KeptB N a b) (k : Kept b c) (hN : N ≤ b.heap.size) : KeptB N a c :=
  ⟨h.below.trans (k.below.mono hN), fun x => (k.froze x).trans (h.froze x)⟩
theorem But.kept {B : Nat} {a b : World} (h : But B a b) (hB : a.heap.size ≤ B) : Kept a b :=
  ⟨⟨h.os, h.tape, h.output, h.size, fun k hk => h.block k hk (by omega)⟩, h.froze⟩
/-- a step that turned a block made on the way -/
theorem Kept.thenBut {B : Nat} {a b c : World} (h : Kept a b) (k : But B b c) (hB : a.heap.size ≤ B) : Kept a c :=
  ⟨h.below.trans ⟨k.os, k.tape, k.output, k.size, fun i hi => k.block i (by have := h.size; omega) (by omega)⟩, fun x => (k.froze x).trans (h.froze x)⟩
/-- a slice of words -/
structure Ws (w : World) (A : Option Addr) (n c : Nat) (xs : List Int) : Prop where
  len : xs.length = n
  le : n ≤ c
  max : c ≤ maxLen
  nil : A = none → c = 0
  rng : ∀ x ∈ xs, 0 ≤ x ∧ x < 4294967296
  cel : ∀ ad, A = some ad → ∀ j x, xs[j]? = some x → w.cell? (ad.add j) = some (.int .u32 x)
theorem Ws.empty (w : World) : Ws w none 0 0 [] := ⟨rfl, Nat.le_refl _, by simp [maxLen], fun _ => rfl, by simp, by simp⟩
theorem Ws.lt {w : World} {ad : Addr} {n c : Nat} {xs : List Int} (h : Ws w (some ad) n c xs) (hn : 0 < n) : ad.block < w.heap.size := by
  have hl : 0 < xs.length := by have := h.len; omega
  have hx : xs[0]? = some xs[0] := List.getElem?_eq_getElem hl
  have := World.block_lt_of_cell? w _ (h.cel ad rfl 0 _ hx)
  unfold Addr.add at this
  split at this <;> exact this
theorem Ws.to {w w' : World} {A : Option Addr} {n c : Nat} {xs : List Int} (h : Ws w A n c xs) (hk : ∀ ad, A = some ad → 0 < n → w'.heap[ad.block]? = w.heap[ad.block]?) : Ws w' A n c xs :=
  ⟨h.len, h.le, h.max, h.nil, h.rng, fun ad e j x hx => by
    have hj : j < xs.length := by
      rcases Nat.lt_or_ge j xs.length with h1 | h1
      · exact h1
      · rw [List.getElem?_eq_none h1] at hx; cases hx
    rw [World.cell?_of_block (w := w) (by rw [show (ad.add j).block = ad.block by cases j <;> rfl]; exact hk ad e (by have := h.len; omega))]
    exact h.cel ad e j x hx⟩
theorem Ws.below {N : Nat} {w0 w w' : World} {A : Option Addr} {n c : Nat} {xs : List Int} (h : Ws w A n c xs) (hN : w.heap.size ≤ N) (hb : Below N w w') : Ws w' A n c xs :=
  h.to fun ad e hn => hb.block _ (by subst e; have := h.lt hn; omega)
theorem Ws.kept {w w' : World} {A : Option Addr} {n c : Nat} {xs : List Int} (h : Ws w A n c xs) (hb : Kept w w') : Ws w' A n c xs :=
  h.to fun ad e hn => hb.below.block _ (by subst e; exact h.lt hn)
theorem Ws.but {B : Nat} {w w' : World} {A : Option Addr} {n c : Nat} {xs : List Int} (h : Ws w A n c xs) (hb : But B w w') (hB : ∀ ad, A = some ad → 0 < n → ad.block ≠ B) : Ws w' A n c xs :=
  h.to fun ad e hn => hb.block _ (by subst e; exact h.lt hn) (hB ad e hn)
theorem Ws.drew {w : World} {A : Option Addr} {n c : Nat} {xs : List Int} (h : Ws w A n c xs) : Ws w.drew A n c xs := ⟨h.len, h.le, h.max, h.nil, h.rng, h.cel⟩
/-- the beginning of a slice -/
theorem Ws.take {w : World} {A : Option Addr} {n c : Nat} {xs : List Int} (h : Ws w A n c xs) (k : Nat) (hk : k ≤ n) : Ws w A k c (xs.take k) :=
  ⟨by simp [h.len]; omega, by have := h.le; omega, h.max, h.nil, fun x hx => h.rng x (List.mem_of_mem_take hx), fun ad e j x hx => h.cel ad e j x (by
    rw [List.getElem?_take] at hx
    split at hx
    · exact hx
    · cases hx)⟩
/-- the block B, of the type tyM, begins with a memory of the words ws; behind it stand the cells tlM -/
structure MemT (tyM : TypeId) (tlM : List Value) (B : Nat) (ws : List Int) (w : World) : Prop where
  len : ws.length ≤ 4096
  rng : ∀ x ∈ ws, 0 ≤ x ∧ x < 4294967296
  has : ∃ cs : Array Value, Has B cs tyM w ∧ cs.size = 4097 + tlM.length ∧ cs[4096]? = some (.int .i64 (ws.length : Int)) ∧ (∀ (j : Nat) (x : Int), ws[j]? = some x → cs[j]? = some (Value.int .u32 x)) ∧ ∀ j : Nat, cs[4097 + j]? = tlM[j]?
/-- the block B is a memory of the words ws -/
abbrev Mem (B : Nat) (ws : List Int) (w : World) : Prop := MemT 66 [] B ws w
theorem MemT.lt {B : Nat} {ws : List Int} {w : World} (h : MemT tyM tlM B ws w) : B < w.heap.size := by obtain ⟨cs, hh, _⟩ := h.has; exact hh.lt
theorem MemT.kept {B : Nat} {ws : List Int} {w w' : World} (h : MemT tyM tlM B ws w) (hK : Kept w w') : MemT tyM tlM B ws w' := by
  obtain ⟨cs, h1, h2⟩ := h.has; exact ⟨h.len, h.rng, cs, h1.kept hK, h2⟩
theorem MemT.but {B B' : Nat} {ws : List Int} {w w' : World} (h : MemT tyM tlM B ws w) (hb : But B' w w') (hB : B ≠ B') : MemT tyM tlM B ws w' := by
  obtain ⟨cs, h1, h2⟩ := h.has; exact ⟨h.len, h.rng, cs, hb.has hB h1, h2⟩
theorem MemT.drew {B : Nat} {ws : List Int} {w : World} (h : MemT tyM tlM B ws w) : MemT tyM tlM B ws w.drew := ⟨h.len, h.rng, h.has⟩
theorem MemT.count {B : Nat} {ws : List Int} {w : World} (h : MemT tyM tlM B ws w) : w.cell? ⟨B, 4096, none⟩ = some (.int .i64 (ws.length : Int)) := by
  obtain ⟨cs, h1, _, h2, _⟩ := h.has; exact h1.cell 4096 _ h2
theorem MemT.word {B : Nat} {ws : List Int} {w : World} (h : MemT tyM tlM B ws w) (j : Nat) (hj : j < ws.length) : w.cell? ⟨B, j, none⟩ = some (.int .u32 ws[j]) := by
  obtain ⟨cs, h1, _, _, h2, _⟩ := h.has; exact h1.cell j _ (h2 j _ (List.getElem?_eq_getElem hj))
theorem MemT.free {B : Nat} {ws : List Int} {w : World} (h : MemT tyM tlM B ws w) (j : Nat) : w.frozen? ⟨B, j, none⟩ = false := by
  obtain ⟨cs, h1, _⟩ := h.has; exact h1.free j
theorem mem_set {l : List Int} {j : Nat} {x y : Int} (h : y ∈ l.set j x) : y ∈ l ∨ y = x := List.mem_or_eq_of_mem_set h
theorem MemT.set {B : Nat} {ws : List Int} {w : World} (h : MemT tyM tlM B ws w) (j : Nat) (hj : j < ws.length) (x : Int) (h0 : 0 ≤ x) (h1 : x < 4294967296) : MemT tyM tlM B (ws.set j x) (w.setCell ⟨B, j, none⟩ (.int .u32 x)) := by
  obtain ⟨cs, hh, h2, h3, h4, h5⟩ := h.has
  have hl := h.len
  refine ⟨by simpa using hl, fun y hy => ?_, cs.setIfInBounds j (.int .u32 x), hh.set j _, by simpa using h2, ?_, fun k y hk => ?_, fun k => ?_⟩
  · rcases mem_set hy with hy | rfl
    · exact h.rng y hy
    · exact ⟨h0, h1⟩
  · rw [Array.getElem?_setIfInBounds_ne (by omega), h3, List.length_set]
  · rw [List.getElem?_set] at hk
    by_cases e : j = k
    · subst e
      rw [if_pos rfl, if_pos hj] at hk
      cases hk
      rw [Array.getElem?_setIfInBounds_self_of_lt (by omega)]
    · rw [if_neg e] at hk
      rw [Array.getElem?_setIfInBounds_ne e]
      exact h4 k y hk
  · rw [Array.getElem?_setIfInBounds_ne (by omega)]
    exact h5 k
theorem MemT.place {B : Nat} {ws : List Int} {w : World} (h : MemT tyM tlM B ws w) (k : Nat) (xs : List Int) (hk : k + xs.length ≤ ws.length) (hx : ∀ x ∈ xs, 0 ≤ x ∧ x < 4294967296) (cs : Array Value) (hh : Has B cs tyM w)
    (hs : cs.size = 4097 + tlM.length) (h3 : cs[4096]? = some (.int .i64 (ws.length : Int))) (h4 : ∀ (j : Nat) (x : Int), ws[j]? = some x → cs[j]? = some (Value.int .u32 x)) (h5 : ∀ j : Nat, cs[4097 + j]? = tlM[j]?) :
    MemT tyM tlM B (ws.take k ++ xs ++ ws.drop (k + xs.length)) (w.setRow B (cs.toList.take k ++ xs.map (Value.int .u32) ++ cs.toList.drop (k + (xs.map (Value.int .u32)).length)).toArray) := by
  have hl := h.len
  have hlen : (ws.take k ++ xs ++ ws.drop (k + xs.length)).length = ws.length := by simp; omega
  refine ⟨by omega, fun y hy => ?_, _, hh.row _, by simp; omega, ?_, fun j y hj => ?_, fun j => ?_⟩
  · rcases List.mem_append.1 hy with hy | hy
    · rcases List.mem_append.1 hy with hy | hy
      · exact h.rng y (List.mem_of_mem_take hy)
      · exact hx y hy
    · exact h.rng y (List.mem_of_mem_drop hy)
  · rw [hlen]
    simp only [List.getElem?_toArray]
    rw [List.getElem?_append_right (by simp; omega)]
    simp only [List.length_append, List.length_take, List.length_map, List.getElem?_drop, Array.length_toList]
    rw [show k + xs.length + (4096 - (min k cs.size + xs.length)) = 4096 by omega]
    simpa using h3
  · simp only [List.getElem?_toArray]
    by_cases c1 : j < k
    · rw [List.append_assoc, List.getElem?_append_left (by simp; omega), List.getElem?_take, if_pos c1] at hj ⊢
      simpa using h4 j y hj
    · by_cases c2 : j < k + xs.length
      · rw [List.getElem?_append_left (by simp; omega), List.getElem?_append_right (by simp; omega)] at hj ⊢
        rw [show j - (List.take k ws).length = j - k by simp; omega] at hj
        rw [show j - (List.take k cs.toList).length = j - k by simp; omega, List.getElem?_map, hj]
        rfl
      · rw [List.getElem?_append_right (by simp; omega), List.getElem?_drop] at hj ⊢
        rw [show k + xs.length + (j - (List.take k ws ++ xs).length) = j by simp; omega] at hj
        rw [show k + (List.map (Value.int .u32) xs).length + (j - (List.take k cs.toList ++ List.map (Value.int .u32) xs).length) = j by simp; omega]
        simpa using h4 j y hj
  · simp only [List.getElem?_toArray]
    rw [List.getElem?_append_right (by simp; omega), List.getElem?_drop]
    rw [show k + (List.map (Value.int .u32) xs).length + (4097 + j - (List.take k cs.toList ++ List.map (Value.int .u32) xs).length) = 4097 + j by simp; omega]
    simpa using h5 j
end Go.Proofs.Ytlmddkciamdldaa

/-
  The contracts of package memory: New, Word, Byte and what they call.
-/
namespace Go.Proofs.Ytlmddkciamdldaa
open Go.RowKit
variable {tyM : TypeId} {tlM : List Value}
set_option linter.unusedVariables false
set_option linter.unusedSimpArgs false
set_option maxRecDepth 100000
/-- a new memory's cells -/
def M.zero : Array Value := (List.replicate 4096 (Value.int .u32 0) ++ [Value.int .i64 0]).toArray
theorem M.shape : shapeOf Try.prog 66 = some (M.zero, [(0, 4096), (4096, 1)]) := by kernel_rfl
theorem row_size (k : Nat) (a b : Value) : (List.replicate k a ++ [b]).toArray.size = k + 1 := by simp
theorem row_at (k j : Nat) (a b : Value) (hj : j < k) : (List.replicate k a ++ [b]).toArray[j]? = some a := by
  rw [List.getElem?_toArray, List.getElem?_append_left (by simpa using hj), List.getElem?_replicate, if_pos hj]
theorem fill_one {place : Nat → Option (Nat × Nat)} {z : Array Value} {i off : Nat} {v : Value} (hp : place i = some (off, 1)) (hv : v.cells = #[v]) (hz : off + 1 ≤ z.size) : Instr.fill place z [(i, v)] = some (z.setIfInBounds off v) := by
  unfold Instr.fill
  simp [hp, hv, Instr.fill]
  omega
theorem M.zero_size : M.zero.size = 4097 := row_size 4096 _ _
theorem M.zero_at (j : Nat) (hj : j < 4096) : M.zero[j]? = some (Value.int .u32 0) := row_at 4096 j _ _ hj
theorem M.built (n : Int) : Try.prog.built 66 [(1, .int .i64 n)] = some (M.zero.setIfInBounds 4096 (.int .i64 n)) := by
  rw [built_of M.shape]
  exact fill_one rfl rfl (by rw [M.zero_size]; omega)
theorem MemT.new (n : Nat) (hn : n ≤ 4096) (w : World) : MemT 66 [] w.heap.size (List.replicate n 0) (w.alloc (.cells (M.zero.setIfInBounds 4096 (.int .i64 n)) 66)) := by
  refine ⟨by simpa using hn, fun x hx => ?_, _, Has.new _ _ _, by simp [M.zero_size], ?_, fun j x hj => ?_, fun j => by rw [Array.getElem?_eq_none (by simp [M.zero_size])]; simp⟩
  · rw [List.eq_of_mem_replicate hx]; omega
  · rw [Array.getElem?_setIfInBounds_self_of_lt (by rw [M.zero_size]; omega), List.length_replicate]
  · rw [List.getElem?_replicate] at hj
    split at hj
    · cases hj
      rw [Array.getElem?_setIfInBounds_ne (by omega)]
      exact M.zero_at j (by omega)
    · cases hj
theorem M.new_no (n : Int) (hn : n < 0 ∨ 4096 < n) (w : World) :
    Calls Try.prog 24 #[.int .i64 n] w fun e w' => e = .returned (.tuple #[.pointer none, .int .i64 2]) ∧ w = w' := by
  rcases Int.lt_or_le n 0 with h | h
  · go_enter Try.func24, Try.ntmps24
    go_wp2
    go_ret2
    exact ⟨rfl, rfl⟩
  · have h1 : 4096 < n := by omega
    go_enter Try.func24, Try.ntmps24
    go_wp2
    go_ret2
    exact ⟨rfl, rfl⟩
theorem M.new_yes (n : Nat) (hn : n ≤ 4096) (w : World) :
    Calls Try.prog 24 #[.int .i64 n] w fun e w' => e = .returned (.tuple #[.pointer (some ⟨w.heap.size, 0, none⟩), .int .i64 0]) ∧ MemT 66 [] w.heap.size (List.replicate n 0) w' ∧ Kept w w' ∧ w'.heap.size = w.heap.size + 1 := by
  have h0 : (0 : Int) ≤ n := by omega
  have h1 : (n : Int) ≤ 4096 := by omega
  go_enter Try.func24, Try.ntmps24
  go_wp2_with (first
    | ((with_reducible refine build_has (o := ⟨some 11, _, _, _, _, _⟩) rfl 66 _ rfl (M.zero.setIfInBounds 4096 (.int .i64 n)) ?hf4 ?_); (case hf4 => (go_simp; exact M.built _))))
  go_ret2
  exact ⟨rfl, MemT.new n hn w, (Kept.refl w).alloc _ _, by simp⟩
theorem M.low_any (x : Int) (h0 : 0 ≤ x) (h1 : x < 4294967296) (w : World) :
    Calls Try.prog 89 #[.int .u32 x] w fun e w' => e = .returned (.int .u32 (8 * (x % 4))) ∧ w = w' := by
  go_enter Try.func89, Try.ntmps89
  go_wp2
  go_ret
  exact ⟨rfl, rfl⟩
/-- the trap of a byte, and of a word -/
def M.bt (ws : List Int) (a : Int) : Int := if (ws.length : Int) ≤ a / 4 then 3 else 0
def M.wt (ws : List Int) (a : Int) : Int := if a % 4 = 0 then M.bt ws a else 4
theorem M.bt_any {B : Nat} {ws : List Int} {w : World} (h : MemT tyM tlM B ws w) (a : Int) (h0 : 0 ≤ a) (h1 : a < 4294967296) :
    Calls Try.prog 56 #[.pointer (some ⟨B, 0, none⟩), .int .u32 a] w fun e w' => e = .returned (.int .i64 (M.bt ws a)) ∧ w = w' := by
  have hc := h.count
  have hl := h.len
  have hl0 : (ws.length : Int) ≤ 4096 := by omega
  clear h
  unfold M.bt
  by_cases c : (ws.length : Int) ≤ a / 4
  · rw [if_pos c]
    go_enter Try.func56, Try.ntmps56
    go_wp2
    go_ret
    exact ⟨rfl, rfl⟩
  · rw [if_neg c]
    go_enter Try.func56, Try.ntmps56
    go_wp2
    go_ret
    exact ⟨rfl, rfl⟩
theorem M.wt_any {B : Nat} {ws : List Int} {w : World} (h : MemT tyM tlM B ws w) (a : Int) (h0 : 0 ≤ a) (h1 : a < 4294967296) :
    Calls Try.prog 47 #[.pointer (some ⟨B, 0, none⟩), .int .u32 a] w fun e w' => e = .returned (.int .i64 (M.wt ws a)) ∧ w = w' := by
  have C := M.bt_any h a h0 h1
  clear h
  unfold M.wt
  by_cases c : a % 4 = 0
  · rw [if_pos c]
    go_enter Try.func47, Try.ntmps47
    go_wp2_with (go_at_call 56; refine C.mono ?_; rintro e w' ⟨rfl, rfl⟩)
    go_ret
    exact ⟨rfl, rfl⟩
  · rw [if_neg c]
    go_enter Try.func47, Try.ntmps47
    go_wp2
    go_ret
    exact ⟨rfl, rfl⟩
/-- the word at an address, and the byte -/
def M.word (ws : List Int) (a : Int) : Int := if M.wt ws a = 0 then ws.getD (a / 4).toNat 0 else 0
def M.byte (ws : List Int) (a : Int) : Int := if M.bt ws a = 0 then ws.getD (a / 4).toNat 0 / 2 ^ (8 * (a % 4)).toNat % 256 else 0
theorem M.bt_zero {ws : List Int} {a : Int} (h0 : 0 ≤ a) (h : M.bt ws a = 0) : (a / 4).toNat < ws.length := by
  unfold M.bt at h
  split at h
  · omega
  · omega
theorem M.wt_zero {ws : List Int} {a : Int} (h : M.wt ws a = 0) : a % 4 = 0 ∧ M.bt ws a = 0 := by
  unfold M.wt at h
  split at h
  · exact ⟨by assumption, h⟩
  · omega
theorem M.word_any {B : Nat} {ws : List Int} {w : World} (h : MemT tyM tlM B ws w) (a : Int) (h0 : 0 ≤ a) (h1 : a < 4294967296) :
    Calls Try.prog 37 #[.pointer (some ⟨B, 0, none⟩), .int .u32 a] w fun e w' => e = .returned (.tuple #[.int .u32 (M.word ws a), .int .i64 (M.wt ws a)]) ∧ w = w' := by
  have C := M.wt_any h a h0 h1
  have hl := h.len
  unfold M.word
  by_cases c : M.wt ws a = 0
  · rw [if_pos c]
    obtain ⟨c1, c2⟩ := M.wt_zero c
    have c3 := M.bt_zero h0 c2
    have hw := h.word _ c3
    rw [show ws.getD (a / 4).toNat 0 = ws[(a / 4).toNat] by simp [c3]]
    generalize ws[(a / 4).toNat] = x at *
    have c4 : a / 4 < 4096 := by omega
    rw [c] at C ⊢
    clear h hl c c1 c2 c3
    go_enter Try.func37, Try.ntmps37
    go_wp2_with (go_at_call 47; refine C.mono ?_; rintro e w' ⟨rfl, rfl⟩)
    go_ret2
    exact ⟨rfl, rfl⟩
  · rw [if_neg c]
    generalize M.wt ws a = t at *
    clear h
    go_enter Try.func37, Try.ntmps37
    go_wp2_with (go_at_call 47; refine C.mono ?_; rintro e w' ⟨rfl, rfl⟩)
    go_ret2
    exact ⟨rfl, rfl⟩
theorem M.byte_any {B : Nat} {ws : List Int} {w : World} (h : MemT tyM tlM B ws w) (a : Int) (h0 : 0 ≤ a) (h1 : a < 4294967296) :
    Calls Try.prog 65 #[.pointer (some ⟨B, 0, none⟩), .int .u32 a] w fun e w' => e = .returned (.tuple #[.int .u8 (M.byte ws a), .int .i64 (M.bt ws a)]) ∧ Kept w w' := by
  have C := M.bt_any h a h0 h1
  have hl := h.len
  unfold M.byte
  by_cases c : M.bt ws a = 0
  · rw [if_pos c]
    have c3 := M.bt_zero h0 c
    have hw := h.word _ c3
    have hr := h.rng _ (List.getElem_mem c3)
    rw [show ws.getD (a / 4).toNat 0 = ws[(a / 4).toNat] by simp [c3]]
    generalize ws[(a / 4).toNat] = x at *
    have c4 : a / 4 < 4096 := by omega
    rw [c] at C ⊢
    have L := fun w => M.low_any a h0 h1 w
    generalize hk : 8 * (a % 4) = k at *
    have k0 : 0 ≤ k := by omega
    have k1 : k < 32 := by omega
    clear h hl c c3 hk
    go_enter Try.func65, Try.ntmps65
    go_wp2_with (go_at_call 56; refine C.mono ?_; rintro e w' ⟨rfl, rfl⟩)
    have hq : IntKind.u32.wrap (a.tdiv 4) = a / 4 := IntWalk.u32_quo a 4 ⟨h0, by omega, by omega⟩
    have hq0 : 0 ≤ a / 4 := by omega
    go_quiet ((go_at_call 89; exact Calls.quiet_of_same ((L _).mono fun _ _ h => ⟨h.1, h.2.symm⟩)))
    go_wp2
    go_ret2
    exact ⟨rfl, (Kept.refl w).drewN nq⟩
  · rw [if_neg c]
    generalize M.bt ws a = t at *
    clear h
    go_enter Try.func65, Try.ntmps65
    go_wp2_with (go_at_call 56; refine C.mono ?_; rintro e w' ⟨rfl, rfl⟩)
    go_ret2
    exact ⟨rfl, Kept.refl _⟩
end Go.Proofs.Ytlmddkciamdldaa

/-
  The contracts of package memory: SetWord, SetByte, Place, Words.
-/
namespace Go.Proofs.Ytlmddkciamdldaa
open Go.RowKit
variable {tyM : TypeId} {tlM : List Value}
set_option linter.unusedVariables false
set_option linter.unusedSimpArgs false
set_option maxRecDepth 100000
/-- copy into a block that is known -/
theorem copy_has {P : Program} {w : World} {ops : Array Oper} {rest : List Oper} {o : Oper} {a : Act} {Q : Exit → Act → World → Prop} (hgd : o.guard = none) (d s : Operand) (dT sT : TypeId)
    (ho : o.op = .call { callee := .builtin .copy, args := #[d, s], argTypes := #[dT, sT] }) (elem : TypeId) (hu : P.underlying dT = some (.slice elem)) (hsz : (P.info? elem).map (·.size) = some 1)
    (dp sp : Option Addr) (dLen dCap sLen sCap : Nat) (hd : a.eval d = .slice dp dLen dCap) (hs : a.eval s = .slice sp sLen sCap)
    (g off : Nat) (cur : Array Value) (t : TypeId) (hg : Has g cur t w) (cs : List Value) (hn : cs.length = Nat.min sLen dLen)
    (hpos : 0 < cs.length → dp = some ⟨g, off, none⟩ ∧ ∃ ad, sp = some ad ∧ ∀ (j : Nat) (v : Value), cs[j]? = some v → w.cell? (ad.add j) = some v)
    (hfit : off + cs.length ≤ cur.size) (h1 : ∀ v ∈ cs, v.oneCell' = true)
    (h : wpList P ops Q rest (a.put o.dst (goInt cs.length)) (w.setRow g (cur.toList.take off ++ cs ++ cur.toList.drop (off + cs.length)).toArray)) : wpList P ops Q (o :: rest) a w := by
  by_cases h0 : cs.length = 0
  · obtain rfl : cs = [] := List.eq_nil_of_length_eq_zero h0
    refine wpList_copy_nothing hgd d s dT sT ho elem hu hsz dp sp dLen dCap sLen sCap hd hs (by simpa using hn.symm) ?_
    have e : (cur.toList.take off ++ ([] : List Value) ++ cur.toList.drop (off + ([] : List Value).length)).toArray = cur := by simp
    rw [e, setRow_self w g cur t (0, 0) hg] at h
    exact h
  · obtain ⟨rfl, ad, rfl, hsrc⟩ := hpos (by omega)
    refine wpList_copy_own hgd d s dT sT ho elem hu hsz g off dLen dCap ad sLen sCap hd hs cur t hg cs hn hsrc hfit h1 ?_
    rw [List.append_assoc] at h
    exact h
/-- the words behind SetWord, SetByte -/
def M.setW (ws : List Int) (a x : Int) : List Int := if M.wt ws a = 0 then ws.set (a / 4).toNat x else ws
def M.mix (y a x : Int) : Int := y - y / 2 ^ (8 * (a % 4)).toNat % 256 * 2 ^ (8 * (a % 4)).toNat + x * 2 ^ (8 * (a % 4)).toNat
def M.setB (ws : List Int) (a x : Int) : List Int := if M.bt ws a = 0 then ws.set (a / 4).toNat (M.mix (ws.getD (a / 4).toNat 0) a x) else ws
theorem M.setW_any {B : Nat} {ws : List Int} {w : World} (h : MemT tyM tlM B ws w) (a x : Int) (h0 : 0 ≤ a) (h1 : a < 4294967296) (x0 : 0 ≤ x) (x1 : x < 4294967296) :
    Calls Try.prog 90 #[.pointer (some ⟨B, 0, none⟩), .int .u32 a, .int .u32 x] w fun e w' => e = .returned (.int .i64 (M.wt ws a)) ∧ MemT tyM tlM B (M.setW ws a x) w' ∧ But B w w' := by
  have C := M.wt_any h a h0 h1
  have hl := h.len
  unfold M.setW
  by_cases c : M.wt ws a = 0
  · rw [if_pos c]
    obtain ⟨c1, c2⟩ := M.wt_zero c
    have c3 := M.bt_zero h0 c2
    have hw := h.word _ c3
    have hf := h.free (a / 4).toNat
    have c4 : a / 4 < 4096 := by omega
    have R := Lib.hid (h.set _ c3 x x0 x1)
    generalize ws[(a / 4).toNat] = y at *
    rw [c] at C ⊢
    clear h hl c c1 c2 c3
    go_enter Try.func90, Try.ntmps90
    go_wp2_with (go_at_call 47; refine C.mono ?_; rintro e w' ⟨rfl, rfl⟩)
    go_ret
    exact ⟨rfl, R.out, (But.refl B w).setCell _ _⟩
  · rw [if_neg c]
    have R := Lib.hid h
    generalize M.wt ws a = t at *
    clear h
    go_enter Try.func90, Try.ntmps90
    go_wp2_with (go_at_call 47; refine C.mono ?_; rintro e w' ⟨rfl, rfl⟩)
    go_ret
    exact ⟨rfl, R.out, But.refl B w⟩
theorem M.mask_bit (k i : Nat) (hk : k ≤ 24) : (4294967295 - 255 * 2 ^ k).testBit i = (decide (i < k) || (decide (k + 8 ≤ i) && decide (i < 32))) := by
  have e : 4294967295 - 255 * 2 ^ k = 2 ^ k * (2 ^ 8 * (2 ^ (24 - k) - 1) + 0) + (2 ^ k - 1) := by
    have h1 : 2 ^ k * (2 ^ 8 * 2 ^ (24 - k)) = 4294967296 := by rw [← Nat.pow_add, ← Nat.pow_add, show k + (8 + (24 - k)) = 32 by omega]
    have h2 : 1 ≤ 2 ^ (24 - k) := Nat.one_le_two_pow
    have h3 : 1 ≤ 2 ^ k := Nat.one_le_two_pow
    rw [show (2 : Nat) ^ 8 = 256 from rfl] at h1 ⊢
    generalize 2 ^ (24 - k) = Q at *
    generalize 2 ^ k = P at *
    rw [Nat.add_zero, Nat.mul_sub, Nat.mul_sub, h1]
    have h4 : P * 256 ≤ P * (256 * Q) := Nat.mul_le_mul_left _ (by omega)
    omega
  rw [e, Nat.testBit_two_pow_mul_add _ (by have : 1 ≤ 2 ^ k := Nat.one_le_two_pow; omega), Nat.testBit_two_pow_mul_add _ (by decide), Nat.testBit_two_pow_sub_one, Nat.testBit_two_pow_sub_one]
  by_cases c1 : i < k
  · simp [c1]
  · by_cases c2 : i - k < 8
    · simp [c1, c2, show ¬ k + 8 ≤ i by omega]
    · simp only [c1, c2, if_false, show k + 8 ≤ i by omega, decide_true, decide_false, Bool.true_and, Bool.false_or]
      rw [decide_eq_decide]; omega
theorem M.put_bits (y x k : Nat) (hk : k ≤ 24) (hy : y < 4294967296) (hx : x < 256) : (y &&& (4294967295 - 255 * 2 ^ k)) ||| (x * 2 ^ k) = y - y / 2 ^ k % 256 * 2 ^ k + x * 2 ^ k := by
  have e : y - y / 2 ^ k % 256 * 2 ^ k + x * 2 ^ k = 2 ^ k * (2 ^ 8 * (y / 2 ^ k / 256) + x) + y % 2 ^ k := by
    have h1 := Nat.div_add_mod y (2 ^ k)
    have h2 := Nat.div_add_mod (y / 2 ^ k) 256
    have h3 : 2 ^ k * (y / 2 ^ k) = 2 ^ k * (256 * (y / 2 ^ k / 256)) + 2 ^ k * (y / 2 ^ k % 256) := by rw [← Nat.mul_add, h2]
    rw [Nat.mul_add, Nat.mul_comm x, Nat.mul_comm (y / 2 ^ k % 256), show (2 : Nat) ^ 8 = 256 from rfl]
    generalize 2 ^ k * (y / 2 ^ k % 256) = A1 at *
    generalize 2 ^ k * (256 * (y / 2 ^ k / 256)) = A2 at *
    generalize 2 ^ k * (y / 2 ^ k) = A3 at *
    generalize y % 2 ^ k = A4 at *
    generalize 2 ^ k * x = A5 at *
    clear h2
    omega
  rw [e]
  apply Nat.eq_of_testBit_eq
  intro i
  rw [Nat.testBit_two_pow_mul_add _ (Nat.mod_lt _ (Nat.two_pow_pos k)), Nat.testBit_two_pow_mul_add _ (show x < 2 ^ 8 by omega), Nat.testBit_or, Nat.testBit_and, M.mask_bit k i hk, Nat.testBit_mod_two_pow, Nat.mul_comm x, Nat.testBit_two_pow_mul]
  by_cases c1 : i < k
  · simp [c1, show ¬ k ≤ i by omega]
  · by_cases c2 : i - k < 8
    · simp [c1, c2, show ¬ k + 8 ≤ i by omega, show k ≤ i by omega]
    · have hxb : x.testBit (i - k) = false := Nat.testBit_lt_two_pow (Nat.lt_of_lt_of_le hx (show 2 ^ 8 ≤ 2 ^ (i - k) from Nat.pow_le_pow_right (by decide) (by omega)))
      have hyb : y.testBit i = (y / 2 ^ k / 256).testBit (i - k - 8) := by
        rw [Nat.div_div_eq_div_mul, show 2 ^ k * 256 = 2 ^ (k + 8) by rw [Nat.pow_add], Nat.testBit_div_two_pow, show i - k - 8 + (k + 8) = i by omega]
      simp only [c1, c2, if_false, show k + 8 ≤ i by omega, decide_true, decide_false, Bool.true_and, Bool.false_or, hxb, Bool.and_false, Bool.or_false]
      rw [← hyb]
      by_cases c3 : i < 32
      · simp [c3]
      · have : y.testBit i = false := Nat.testBit_lt_two_pow (Nat.lt_of_lt_of_le hy (show 2 ^ 32 ≤ 2 ^ i from Nat.pow_le_pow_right (by decide) (by omega)))
        simp [this]
theorem M.put (y a x : Int) (h0 : 0 ≤ a) (x0 : 0 ≤ x) (x1 : x < 256) (y0 : 0 ≤ y) (y1 : y < 4294967296) :
    bits .or .u32 (bits .andNot .u32 y (255 * 2 ^ (8 * (a % 4)).toNat % 4294967296)) (x * 2 ^ (8 * (a % 4)).toNat % 4294967296) = M.mix y a x := by
  unfold M.mix
  obtain ⟨k, hk⟩ : ∃ k : Nat, k = (8 * (a % 4)).toNat := ⟨_, rfl⟩
  rw [← hk]
  have hk4 : k = 0 ∨ k = 8 ∨ k = 16 ∨ k = 24 := by omega
  have hk24 : k ≤ 24 := by omega
  clear hk
  obtain ⟨y, rfl⟩ := Int.eq_ofNat_of_zero_le y0
  obtain ⟨x, rfl⟩ := Int.eq_ofNat_of_zero_le x0
  have p1 : (2 : Int) ^ k ≤ 16777216 := by rcases hk4 with rfl | rfl | rfl | rfl <;> decide
  have p0 : (1 : Int) ≤ 2 ^ k := by rcases hk4 with rfl | rfl | rfl | rfl <;> decide
  have e2 : ((2 : Int) ^ k) = ((2 ^ k : Nat) : Int) := by rw [Int.natCast_pow]; rfl
  have px : (x : Int) * 2 ^ k < 4294967296 := by
    have : (x : Int) * 2 ^ k ≤ 255 * 2 ^ k := Int.mul_le_mul_of_nonneg_right (by omega) (by omega)
    omega
  have px0 : 0 ≤ (x : Int) * 2 ^ k := Int.mul_nonneg (by omega) (by omega)
  rw [Int.emod_eq_of_lt px0 px, Int.emod_eq_of_lt (by omega) (by omega)]
  rw [show (255 : Int) * 2 ^ k = ((255 * 2 ^ k : Nat) : Int) by rw [Int.natCast_mul, ← e2]; rfl, show (x : Int) * 2 ^ k = ((x * 2 ^ k : Nat) : Int) by rw [Int.natCast_mul, ← e2]]
  have q1 : 255 * 2 ^ k < 4294967296 := by rcases hk4 with rfl | rfl | rfl | rfl <;> decide
  have q2 : x * 2 ^ k < 4294967296 := Nat.lt_of_le_of_lt (Nat.mul_le_mul_right _ (by omega : x ≤ 255)) q1
  rw [u32_andNot_nat y _ (by omega) q1, u32_or_nat _ _ (Nat.lt_of_le_of_lt Nat.and_le_left (by omega)) q2, M.put_bits y x k hk24 (by omega) (by omega)]
  have hle : y / 2 ^ k % 256 * 2 ^ k ≤ y := Nat.le_trans (Nat.mul_le_mul_right _ (Nat.mod_le _ _)) (Nat.div_mul_le_self _ _)
  rw [e2, Int.natCast_add, Int.natCast_sub hle, Int.natCast_mul, Int.natCast_mul, Int.natCast_emod, Int.natCast_ediv]
  rfl
theorem M.mix_range (y a x : Int) (h0 : 0 ≤ a) (x0 : 0 ≤ x) (x1 : x < 256) (y0 : 0 ≤ y) (y1 : y < 4294967296) : 0 ≤ M.mix y a x ∧ M.mix y a x < 4294967296 := by
  unfold M.mix
  have : a % 4 = 0 ∨ a % 4 = 1 ∨ a % 4 = 2 ∨ a % 4 = 3 := by omega
  rcases this with h | h | h | h <;> rw [h] <;> simp only [show (8 * (0 : Int)).toNat = 0 from rfl, show (8 * (1 : Int)).toNat = 8 from rfl, show (8 * (2 : Int)).toNat = 16 from rfl, show (8 * (3 : Int)).toNat = 24 from rfl] <;> omega
theorem M.mix_byte (y a x : Int) (j : Nat) (hj : j < 4) (h0 : 0 ≤ a) (x0 : 0 ≤ x) (x1 : x < 256) (y0 : 0 ≤ y) (y1 : y < 4294967296) : M.mix y a x / 2 ^ (8 * j) % 256 = if a % 4 = j then x else y / 2 ^ (8 * j) % 256 := by
  have h4 : a % 4 = 0 ∨ a % 4 = 1 ∨ a % 4 = 2 ∨ a % 4 = 3 := by omega
  have hj4 : j = 0 ∨ j = 1 ∨ j = 2 ∨ j = 3 := by omega
  have p0 : (8 * (0 : Int)).toNat = 0 := rfl
  have p1 : (8 * (1 : Int)).toNat = 8 := rfl
  have p2 : (8 * (2 : Int)).toNat = 16 := rfl
  have p3 : (8 * (3 : Int)).toNat = 24 := rfl
  by_cases c : a % 4 = j
  · rw [if_pos c]
    unfold M.mix
    rw [c]
    rcases hj4 with rfl | rfl | rfl | rfl
    · show (y - y / 2 ^ 0 % 256 * 2 ^ 0 + x * 2 ^ 0) / 2 ^ 0 % 256 = x; omega
    · show (y - y / 2 ^ 8 % 256 * 2 ^ 8 + x * 2 ^ 8) / 2 ^ 8 % 256 = x; omega
    · show (y - y / 2 ^ 16 % 256 * 2 ^ 16 + x * 2 ^ 16) / 2 ^ 16 % 256 = x; omega
    · show (y - y / 2 ^ 24 % 256 * 2 ^ 24 + x * 2 ^ 24) / 2 ^ 24 % 256 = x; omega
  · rw [if_neg c]
    unfold M.mix
    rcases h4 with h | h | h | h <;> rw [h] at c ⊢
    · rw [p0]; rcases hj4 with rfl | rfl | rfl | rfl
      · omega
      · show (y - y / 2 ^ 0 % 256 * 2 ^ 0 + x * 2 ^ 0) / 2 ^ 8 % 256 = y / 2 ^ 8 % 256; omega
      · show (y - y / 2 ^ 0 % 256 * 2 ^ 0 + x * 2 ^ 0) / 2 ^ 16 % 256 = y / 2 ^ 16 % 256; omega
      · show (y - y / 2 ^ 0 % 256 * 2 ^ 0 + x * 2 ^ 0) / 2 ^ 24 % 256 = y / 2 ^ 24 % 256; omega
    · rw [p1]; rcases hj4 with rfl | rfl | rfl | rfl
      · show (y - y / 2 ^ 8 % 256 * 2 ^ 8 + x * 2 ^ 8) / 2 ^ 0 % 256 = y / 2 ^ 0 % 256; omega
      · omega
      · show (y - y / 2 ^ 8 % 256 * 2 ^ 8 + x * 2 ^ 8) / 2 ^ 16 % 256 = y / 2 ^ 16 % 256; omega
      · show (y - y / 2 ^ 8 % 256 * 2 ^ 8 + x * 2 ^ 8) / 2 ^ 24 % 256 = y / 2 ^ 24 % 256; omega
    · rw [p2]; rcases hj4 with rfl | rfl | rfl | rfl
      · show (y - y / 2 ^ 16 % 256 * 2 ^ 16 + x * 2 ^ 16) / 2 ^ 0 % 256 = y / 2 ^ 0 % 256; omega
      · show (y - y / 2 ^ 16 % 256 * 2 ^ 16 + x * 2 ^ 16) / 2 ^ 8 % 256 = y / 2 ^ 8 % 256; omega
      · omega
      · show (y - y / 2 ^ 16 % 256 * 2 ^ 16 + x * 2 ^ 16) / 2 ^ 24 % 256 = y / 2 ^ 24 % 256; omega
    · rw [p3]; rcases hj4 with rfl | rfl | rfl | rfl
      · show (y - y / 2 ^ 24 % 256 * 2 ^ 24 + x * 2 ^ 24) / 2 ^ 0 % 256 = y / 2 ^ 0 % 256; omega
      · show (y - y / 2 ^ 24 % 256 * 2 ^ 24 + x * 2 ^ 24) / 2 ^ 8 % 256 = y / 2 ^ 8 % 256; omega
      · show (y - y / 2 ^ 24 % 256 * 2 ^ 24 + x * 2 ^ 24) / 2 ^ 16 % 256 = y / 2 ^ 16 % 256; omega
      · omega
theorem M.setB_at {B j : Nat} {w : World} (a x y k : Int) (h0 : 0 ≤ a) (h1 : a < 4294967296) (x0 : 0 ≤ x) (x1 : x < 256) (y0 : 0 ≤ y) (y1 : y < 4294967296) (hk : k = 8 * (a % 4)) (hj : (a / 4).toNat = j) (hj1 : j < 4096)
    (C : Calls Try.prog 56 #[.pointer (some ⟨B, 0, none⟩), .int .u32 a] w fun e w' => e = .returned (.int .i64 0) ∧ w = w')
    (hw : w.cell? ⟨B, j, none⟩ = some (.int .u32 y)) (hf : w.frozen? ⟨B, j, none⟩ = false) :
    Calls Try.prog 67 #[.pointer (some ⟨B, 0, none⟩), .int .u32 a, .int .u8 x] w fun e w' => e = .returned (.int .i64 0) ∧ ∃ w1 : World, Kept w w1 ∧ w' = w1.setCell ⟨B, j, none⟩ (.int .u32 (bits .or .u32 (bits .andNot .u32 y (255 * 2 ^ k.toNat % 4294967296)) (x * 2 ^ k.toNat % 4294967296))) := by
  have c4 : a / 4 < 4096 := by omega
  have hq : IntKind.u32.wrap (a.tdiv 4) = a / 4 := IntWalk.u32_quo a 4 ⟨h0, by omega, by omega⟩
  have hq0 : 0 ≤ a / 4 := by omega
  have L := fun w => M.low_any a h0 h1 w
  rw [← hk] at L
  have k0 : 0 ≤ k := by omega
  have k1 : k < 32 := by omega
  clear hk
  subst hj
  go_enter Try.func67, Try.ntmps67
  go_wp2_with (go_at_call 56; refine C.mono ?_; rintro e w' ⟨rfl, rfl⟩)
  go_quiet ((go_at_call 89; exact Calls.quiet_of_same ((L _).mono fun _ _ h => ⟨h.1, h.2.symm⟩)))
  go_wp2
  generalize hwn : w.drewN nq = w1 at *
  have hw1 : w1.cell? ⟨B, (a / 4).toNat, none⟩ = some (.int .u32 y) := by rw [← hwn]; exact hw
  have hf1 : w1.frozen? ⟨B, (a / 4).toNat, none⟩ = false := by rw [← hwn]; exact hf
  have hK := Lib.hid ((Kept.refl w).drewN nq)
  rw [hwn] at hK
  clear hwn hw hf
  go_still_tail 13, (by kernel_rfl)
  still_call ((L _).mono fun _ _ h => ⟨h.1, h.2.symm⟩)
  repeat still_step
  refine wpStill_nil ?_
  change wpList _ _ _ _ _ w1.drew
  replace hK := Lib.hid hK.out.drew
  have hw2 : w1.drew.cell? ⟨B, (a / 4).toNat, none⟩ = some (.int .u32 y) := hw1
  have hf2 : w1.drew.frozen? ⟨B, (a / 4).toNat, none⟩ = false := hf1
  clear hw1 hf1
  generalize w1.drew = w2 at *
  go_wp2
  go_ret
  exact ⟨rfl, _, hK.out, rfl⟩
theorem M.setB_any {B : Nat} {ws : List Int} {w : World} (h : MemT tyM tlM B ws w) (a x : Int) (h0 : 0 ≤ a) (h1 : a < 4294967296) (x0 : 0 ≤ x) (x1 : x < 256) :
    Calls Try.prog 67 #[.pointer (some ⟨B, 0, none⟩), .int .u32 a, .int .u8 x] w fun e w' => e = .returned (.int .i64 (M.bt ws a)) ∧ MemT tyM tlM B (M.setB ws a x) w' ∧ But B w w' := by
  have C := M.bt_any h a h0 h1
  have hl := h.len
  unfold M.setB
  by_cases c : M.bt ws a = 0
  · rw [if_pos c]
    have c3 := M.bt_zero h0 c
    have hr := h.rng _ (List.getElem_mem c3)
    rw [show ws.getD (a / 4).toNat 0 = ws[(a / 4).toNat] by simp [c3]]
    rw [c] at C ⊢
    have hm := M.mix_range ws[(a / 4).toNat] a x h0 x0 x1 hr.1 hr.2
    refine (M.setB_at a x _ _ h0 h1 x0 x1 hr.1 hr.2 rfl rfl (by omega) C (h.word _ c3) (h.free _)).mono fun e w' ⟨he, w1, hK, hw⟩ => ?_
    subst hw
    rw [M.put _ a x h0 x0 x1 hr.1 hr.2]
    exact ⟨he, (h.kept hK).set _ c3 _ hm.1 hm.2, (hK.but B).trans ((But.refl B w1).setCell _ _)⟩
  · rw [if_neg c]
    have R := Lib.hid h
    generalize M.bt ws a = t at *
    clear h
    go_enter Try.func67, Try.ntmps67
    go_wp2_with (go_at_call 56; refine C.mono ?_; rintro e w' ⟨rfl, rfl⟩)
    go_ret
    exact ⟨rfl, R.out, But.refl B w⟩
end Go.Proofs.Ytlmddkciamdldaa

/-
  The contracts of package memory: Place, Words.
-/
namespace Go.Proofs.Ytlmddkciamdldaa
open Go.RowKit
variable {tyM : TypeId} {tlM : List Value}
set_option linter.unusedVariables false
set_option linter.unusedSimpArgs false
set_option maxRecDepth 100000
/-- the words behind Place -/
def M.placed (ws : List Int) (k : Nat) (xs : List Int) : List Int := ws.take k ++ xs ++ ws.drop (k + xs.length)
theorem M.placed_in (ws ys : List Int) (k j : Nat) (hk : k + ys.length ≤ ws.length) (h1 : k ≤ j) (h2 : j < k + ys.length) : (M.placed ws k ys)[j]? = ys[j - k]? := by
  unfold M.placed
  rw [List.getElem?_append_left (by simp; omega), List.getElem?_append_right (by simp; omega), show j - (List.take k ws).length = j - k by simp; omega]
theorem M.placed_out (ws ys : List Int) (k j : Nat) (hk : k + ys.length ≤ ws.length) (h : ¬ (k ≤ j ∧ j < k + ys.length)) : (M.placed ws k ys)[j]? = ws[j]? := by
  unfold M.placed
  by_cases c1 : j < k
  · rw [List.append_assoc, List.getElem?_append_left (by simp; omega), List.getElem?_take, if_pos c1]
  · rw [List.getElem?_append_right (by simp; omega), List.getElem?_drop, show k + ys.length + (j - (List.take k ws ++ ys).length) = j by simp; omega]
theorem M.placed_len (ws ys : List Int) (k : Nat) (hk : k + ys.length ≤ ws.length) : (M.placed ws k ys).length = ws.length := by unfold M.placed; simp; omega
theorem M.place_no {B : Nat} {ws : List Int} {w : World} (h : MemT tyM tlM B ws w) (k : Int) (A : Option Addr) (n c : Nat) (hn : n ≤ maxLen) (k0 : -9223372036854775808 ≤ k) (k1 : k ≤ 9223372036854775807) (hf : k < 0 ∨ (ws.length : Int) < k + n) :
    Calls Try.prog 26 #[.pointer (some ⟨B, 0, none⟩), .int .i64 k, .slice A n c] w fun e w' => e = .returned (.int .i64 11) ∧ w = w' := by
  have hc := h.count
  have hl := h.len
  unfold maxLen at hn
  have hn1 : (n : Int) ≤ 9223372036854775807 := by omega
  clear h
  rcases Int.lt_or_le k 0 with h | h
  · go_enter Try.func26, Try.ntmps26
    go_wp2
    go_ret
    exact ⟨rfl, rfl⟩
  · have h1 : (ws.length : Int) - k < n := by omega
    have h2 : ¬ k < 0 := by omega
    have h3 : decide (k < 0) = false := decide_eq_false h2
    clear hf
    go_enter Try.func26, Try.ntmps26
    go_wp2
    go_ret
    exact ⟨rfl, rfl⟩
theorem M.place_yes {B : Nat} {ws : List Int} {w : World} (h : MemT tyM tlM B ws w) (k : Nat) (A : Option Addr) (n c : Nat) (xs : List Int) (hx : Ws w A n c xs) (hf : k + n ≤ ws.length) :
    Calls Try.prog 26 #[.pointer (some ⟨B, 0, none⟩), .int .i64 k, .slice A n c] w fun e w' => e = .returned (.int .i64 0) ∧ MemT tyM tlM B (M.placed ws k xs) w' ∧ But B w w' := by
  have hc := h.count
  have hl := h.len
  have h2 : ¬ (k : Int) < 0 := by omega
  have h3 : decide ((k : Int) < 0) = false := decide_eq_false h2
  have h4 : ¬ (ws.length : Int) - k < n := by omega
  have h5 : (n : Int) ≤ (ws.length : Int) - k := by omega
  obtain ⟨cs, hh, hs, hh3, hh4, hh5⟩ := h.has
  have hxl := hx.len
  have R := Lib.hid (h.drew.place k xs (by omega) hx.rng cs hh hs hh3 hh4 hh5)
  have hX := Lib.hid hx
  have hH := Lib.hid hh
  have hl0 : (ws.length : Int) ≤ 4096 := by omega
  have hk0 : (k : Int) ≤ ws.length := by omega
  generalize hN : ws.length = N at *
  clear h hx hh hh3 hh4 hh5
  go_enter Try.func26, Try.ntmps26
  go_wp2
  go_still_tail 10, (by kernel_rfl)
  change wpList _ _ _ _ _ w.drew
  refine copy_has rfl (.tmp 28) (.tmp 29) 28 28 rfl 24 Try.underlying28 (by kernel_rfl) _ _ _ _ _ _ rfl rfl B k cs tyM (show Has B cs tyM w.drew from hH.out) (xs.map (Value.int .u32)) ?_ ?_ ?_ ?_ ?_
  · rw [List.length_map, hxl]
    show n = Nat.min n (N - k)
    exact (Nat.min_eq_left (by omega)).symm
  · intro hp
    rw [List.length_map, hxl] at hp
    refine ⟨?_, ?_⟩
    · rw [if_neg (by omega)]
    · cases A with
      | none => have := hX.out.nil rfl; have := hX.out.le; omega
      | some ad =>
        refine ⟨ad, rfl, fun j v hj => ?_⟩
        rw [List.getElem?_map, Option.map_eq_some_iff] at hj
        obtain ⟨x, hx, rfl⟩ := hj
        exact hX.out.cel ad rfl j x hx
  · rw [List.length_map, hxl, hs]; omega
  · intro v hv
    obtain ⟨x, _, rfl⟩ := List.mem_map.1 hv
    rfl
  · generalize hW : w.drew.setRow _ _ = w2 at *
    have hB : But B w w2 := by rw [← hW]; exact ((But.refl B w).drew).setRow _
    replace hB := Lib.hid hB
    clear hW
    go_wp2
    all_goals (go_ret; exact ⟨rfl, R.out, hB.out⟩)
/-- make of so many, in a block that is known -/
theorem make_row {P : Program} {w : World} {ops : Array Oper} {rest : List Oper} {o : Oper} {a : Act} {Q : Exit → Act → World → Prop} (hgd : o.guard = none) (l c : Operand) (t : TypeId) (ho : o.op = .makeSlice t l c)
    (e : TypeId) {z : Value} {b : Nat} (h1 : P.underlying t = some (.slice e)) (hi : (P.info? e).map (fun i => (i.zero, i.size, i.bytes)) = some (some z, 1, b)) (n : Nat) (hl : a.eval l = .int .i64 n) (hc : a.eval c = .int .i64 n)
    (b2 : b * n ≤ 281474976710656) (b3 : n ≤ maxLen)
    (h : wpList P ops Q rest (a.put o.dst (.slice (some ⟨w.heap.size, 0, none⟩) n n)) (w.alloc (.cells (madeCells z.cells n) e))) : wpList P ops Q (o :: rest) a w := by
  refine wpList_plain hgd fun K hK => ?_
  obtain ⟨i, hi, hz, hs, hb⟩ := info_parts hi
  have b4 : (i.bytes : Int) * (n : Int) ≤ 281474976710656 := by rw [hb, ← Int.natCast_mul]; exact Int.ofNat_le.2 b2
  have hrun := run_make (P := P) w t e i z h1 hi hz .i64 .i64 n n (by omega) (Int.le_refl _) b4 (by unfold maxLen at b3; omega)
  rw [Int.toNat_natCast, hs, Nat.mul_one] at hrun
  unfold Oper.wp
  simp [execOp, ho, hl, hc, hrun, Result.andThen]
  exact hK _ _ h
theorem M.info32 : (Try.prog.info? 24).map (fun i => (i.zero, i.size, i.bytes)) = some (some (.int .u32 0), 1, 4) := by kernel_rfl
theorem Has.ws {w : World} {g : Nat} {t : TypeId} {ws : List Int} (h : Has g (ws.map (Value.int .u32)).toArray t w) (hl : ws.length ≤ 9000000000) (hr : ∀ x ∈ ws, 0 ≤ x ∧ x < 4294967296) : Ws w (some ⟨g, 0, none⟩) ws.length ws.length ws := by
  refine ⟨rfl, Nat.le_refl _, by unfold maxLen; omega, by simp, hr, fun ad e j x hx => ?_⟩
  cases e
  rw [show (⟨g, 0, none⟩ : Addr).add j = ⟨g, j, none⟩ by cases j <;> simp [Addr.add]]
  exact h.cell j _ (by rw [List.getElem?_toArray, List.getElem?_map, hx]; rfl)
end Go.Proofs.Ytlmddkciamdldaa

/-
  The contracts of the small functions that the laws of memory call: few, Same.
-/
namespace Go.Proofs.Ytlmddkciamdldaa
open Go.RowKit
set_option linter.unusedVariables false
set_option linter.unusedSimpArgs false
set_option maxRecDepth 100000
theorem Ws.addr {w : World} {ad : Addr} {n c : Nat} {xs : List Int} (h : Ws w (some ad) n c xs) (hn : 0 < n) : ∃ b off, ad = ⟨b, off, none⟩ := by
  have hl : 0 < xs.length := by have := h.len; omega
  have hx := h.cel ad rfl 0 _ (List.getElem?_eq_getElem hl)
  obtain ⟨b, off, spot⟩ := ad
  have hspot : spot = none := by simpa [Addr.add] using World.cell?_spot hx
  subst hspot
  exact ⟨b, off, rfl⟩
theorem Ws.cellAt {w : World} {b off n c : Nat} {xs : List Int} (h : Ws w (some ⟨b, off, none⟩) n c xs) (j : Nat) (x : Int) (hx : xs[j]? = some x) : w.cell? ⟨b, off + j, none⟩ = some (.int .u32 x) := by
  have := h.cel _ rfl j x hx
  rwa [show (⟨b, off, none⟩ : Addr).add j = ⟨b, off + j, none⟩ by cases j <;> simp [Addr.add]] at this
theorem take_step {xs ys : List Int} {k : Nat} {p : Int} (h : xs.take k = ys.take k) (hx : xs[k]? = some p) (hy : ys[k]? = some p) : xs.take (k + 1) = ys.take (k + 1) := by
  rw [List.take_add_one, List.take_add_one, h, hx, hy]
theorem take_apart {xs ys : List Int} {k : Nat} {p q : Int} (hx : xs[k]? = some p) (hy : ys[k]? = some q) (hpq : p ≠ q) : xs ≠ ys := by
  intro e
  rw [e, hy] at hx
  cases hx
  exact hpq rfl
set_option maxRecDepth 100000 in
theorem same_loop {w : World} {b off b' off' n c c' : Nat} {xs ys : List Int} (h : Ws w (some ⟨b, off, none⟩) n c xs) (h' : Ws w (some ⟨b', off', none⟩) n c' ys) (hn : 0 < n) :
    Calls Try.prog 21 #[.slice (some ⟨b, off, none⟩) n c, .slice (some ⟨b', off', none⟩) n c'] w fun e w' => e = .returned (.bool (decide (xs = ys))) ∧ Kept w w' := by
  have hm := h.max
  have hle := h.le
  unfold maxLen at hm
  have hn1 : (n : Int) ≤ 9223372036854775807 := by omega
  have hb := h.lt hn
  have hb' := h'.lt hn
  have hl := h.len
  have hl' := h'.len
  have H := Lib.hid h
  have H' := Lib.hid h'
  clear h h' hm
  go_enter Try.func21, Try.ntmps21
  go_wp2
  go_loopw [5] (fun i wr => ∃ k : Nat, k ≤ n ∧ i = .int .i64 k ∧ xs.take k = ys.take k ∧ Kept w wr) (fun i _ => n - (intOf i).toNat)
  case atStart => exact ⟨0, Nat.zero_le _, rfl, rfl, Kept.refl w⟩
  case round =>
    obtain ⟨k, hk, rfl, ht, hK⟩ := hrel
    by_cases c1 : k < n
    · obtain ⟨p, hp⟩ : ∃ p, xs[k]? = some p := ⟨_, List.getElem?_eq_getElem (by omega)⟩
      obtain ⟨q, hq⟩ : ∃ q, ys[k]? = some q := ⟨_, List.getElem?_eq_getElem (by omega)⟩
      have g1 := (hK.cell (p := ⟨b, off + k, none⟩) hb).trans (H.out.cellAt k p hp)
      have g2 := (hK.cell (p := ⟨b', off' + k, none⟩) hb').trans (H'.out.cellAt k q hq)
      have hkn : (k : Int) < n := by omega
      by_cases c2 : p = q
      · subst c2
        have R := Lib.hid (take_step ht hp hq)
        have c3 : (p != p) = false := by simp
        replace hK := Lib.hid hK
        clear ht hp hq
        go_wp2
        go_quiet (fail)
        go_wp2
        go_roundw
        case rel => exact ⟨k + 1, by omega, by go_num, R.out, hK.out.drewN nq⟩
        case measure => simp [intOf]; omega
      · have R := Lib.hid (take_apart hp hq c2)
        have c3 : (p != q) = true := by simpa using c2
        have c4 : (p == q) = false := by simpa using c2
        replace hK := Lib.hid hK
        clear ht hp hq
        go_wp2
        go_quiet (fail)
        go_wp2
        go_ret
        exact ⟨congrArg (fun b => Ending.returned (Value.bool b)) (decide_eq_false R.out).symm, hK.out.drewN _⟩
    · rw [List.take_of_length_le (by omega), List.take_of_length_le (by omega)] at ht
      have R := Lib.hid ht
      have hkn : ¬ (k : Int) < n := by omega
      replace hK := Lib.hid hK
      clear ht c1
      go_wp2
      go_ret
      exact ⟨congrArg (fun b => Ending.returned (Value.bool b)) (decide_eq_true R.out).symm, hK.out⟩
theorem same_none {w : World} (A A' : Option Addr) (c c' : Nat) :
    Calls Try.prog 21 #[.slice A 0 c, .slice A' 0 c'] w fun e w' => e = .returned (.bool true) ∧ Kept w w' := by
  go_enter Try.func21, Try.ntmps21
  go_wp2
  go_loopw [5] (fun i wr => i = .int .i64 0 ∧ Kept w wr) (fun _ _ => 0)
  case atStart => exact ⟨rfl, Kept.refl w⟩
  case round =>
    obtain ⟨rfl, hK⟩ := hrel
    replace hK := Lib.hid hK
    go_wp2
    go_ret
    exact ⟨rfl, hK.out⟩
theorem same_apart {w : World} (A A' : Option Addr) (n n' c c' : Nat) (hn : ¬ (n : Int) = n') :
    Calls Try.prog 21 #[.slice A n c, .slice A' n' c'] w fun e w' => e = .returned (.bool false) ∧ Kept w w' := by
  have h1 : ((n : Int) != n') = true := by simpa using hn
  have h2 : ((n : Int) == n') = false := by simpa using hn
  go_enter Try.func21, Try.ntmps21
  go_wp2
  go_ret
  exact ⟨rfl, Kept.refl w⟩
theorem same_any {w : World} {A A' : Option Addr} {n n' c c' : Nat} {xs ys : List Int} (h : Ws w A n c xs) (h' : Ws w A' n' c' ys) :
    Calls Try.prog 21 #[.slice A n c, .slice A' n' c'] w fun e w' => e = .returned (.bool (decide (xs = ys))) ∧ Kept w w' := by
  by_cases c1 : n = n'
  · subst c1
    rcases Nat.eq_zero_or_pos n with rfl | hn
    · have e1 : xs = [] := List.eq_nil_of_length_eq_zero h.len
      have e2 : ys = [] := List.eq_nil_of_length_eq_zero h'.len
      subst e1; subst e2
      exact same_none A A' c c'
    · cases A with
      | none => have := h.nil rfl; have := h.le; omega
      | some ad =>
        cases A' with
        | none => have := h'.nil rfl; have := h'.le; omega
        | some ad' =>
          obtain ⟨b, off, rfl⟩ := h.addr hn
          obtain ⟨b', off', rfl⟩ := h'.addr hn
          exact same_loop h h' hn
  · rw [decide_eq_false (fun e : xs = ys => c1 (by rw [← h.len, ← h'.len, e]))]
    exact same_apart A A' n n' c c' (by omega)
end Go.Proofs.Ytlmddkciamdldaa

/-
  The document's example; the head that the laws of memory share; walks of MemoryOwn, MemoryPlaces, MemoryTraps.
-/
namespace Go.Proofs.Ytlmddkciamdldaa
open Go.RowKit
set_option linter.unusedVariables false
set_option linter.unusedSimpArgs false
set_option maxRecDepth 100000
theorem Ws.one {w : World} {g : Nat} {x : Int} {t : TypeId} (h : Has g #[.int .u32 x] t w) (h0 : 0 ≤ x) (h1 : x < 4294967296) : Ws w (some ⟨g, 0, none⟩) 1 1 [x] :=
  ⟨rfl, Nat.le_refl _, by simp [maxLen], by simp, by simpa using ⟨h0, h1⟩, fun ad e j y hy => by
    cases e
    match j, hy with
    | 0, hy => simp at hy; subst hy; exact h.cell 0 _ rfl⟩
theorem M.byte_shown : M.byte [67305985] 1 = 2 ∧ M.bt [67305985] 1 = 0 := by decide
theorem M.new_one (w : World) : Calls Try.prog 24 #[.int .i64 1] w fun e w' => e = .returned (.tuple #[.pointer (some ⟨w.heap.size, 0, none⟩), .int .i64 0]) ∧ Mem w.heap.size [0] w' ∧ Kept w w' ∧ w'.heap.size = w.heap.size + 1 := M.new_yes 1 (by omega) w
theorem M.place_zero {B : Nat} {ws : List Int} {w : World} (h : Mem B ws w) (A : Option Addr) (n c : Nat) (xs : List Int) (hx : Ws w A n c xs) (hf : n = ws.length) :
    Calls Try.prog 26 #[.pointer (some ⟨B, 0, none⟩), .int .i64 0, .slice A n c] w fun e w' => e = .returned (.int .i64 0) ∧ Mem B xs w' ∧ But B w w' := by
  have := M.place_yes h 0 A n c xs hx (by omega)
  have e : M.placed ws 0 xs = xs := by
    unfold M.placed
    rw [List.drop_of_length_le (by have := hx.len; omega)]
    simp
  rw [e] at this
  exact this
theorem M.setW_self (ws : List Int) (a : Int) (h0 : 0 ≤ a) : M.setW ws a (M.word ws a) = ws := by
  unfold M.setW M.word
  by_cases c : M.wt ws a = 0
  · rw [if_pos c, if_pos c]
    have c3 := M.bt_zero h0 (M.wt_zero c).2
    rw [show ws.getD (a / 4).toNat 0 = ws[(a / 4).toNat] by simp [c3]]
    exact List.set_getElem_self c3
  · rw [if_neg c]
theorem M.setB_self (ws : List Int) (a : Int) (h0 : 0 ≤ a) : M.setB ws a (M.byte ws a) = ws := by
  unfold M.setB M.byte
  by_cases c : M.bt ws a = 0
  · rw [if_pos c, if_pos c]
    have c3 := M.bt_zero h0 c
    rw [show ws.getD (a / 4).toNat 0 = ws[(a / 4).toNat] by simp [c3]]
    rw [show M.mix ws[(a / 4).toNat] a (ws[(a / 4).toNat] / 2 ^ (8 * (a % 4)).toNat % 256) = ws[(a / 4).toNat] by unfold M.mix; omega]
    exact List.set_getElem_self c3
  · rw [if_neg c]
theorem M.word_range (ws : List Int) (a : Int) (hr : ∀ x ∈ ws, 0 ≤ x ∧ x < 4294967296) : 0 ≤ M.word ws a ∧ M.word ws a < 4294967296 := by
  unfold M.word
  split
  · rw [List.getD_eq_getElem?_getD]
    cases h : ws[(a / 4).toNat]? with
    | none => simp
    | some x => exact hr x (List.mem_of_getElem? h)
  · omega
theorem M.byte_range (ws : List Int) (a : Int) : 0 ≤ M.byte ws a ∧ M.byte ws a < 256 := by
  unfold M.byte
  split <;> omega
theorem M.cases (ws : List Int) (a : Int) (h0 : 0 ≤ a) : (a % 4 = 0 ∧ 4 * (ws.length : Int) ≤ a ∧ M.wt ws a = 3 ∧ M.bt ws a = 3 ∧ M.word ws a = 0 ∧ M.byte ws a = 0) ∨ (a % 4 = 0 ∧ ¬ 4 * (ws.length : Int) ≤ a ∧ M.wt ws a = 0 ∧ M.bt ws a = 0) ∨
    (¬ a % 4 = 0 ∧ 4 * (ws.length : Int) ≤ a ∧ M.wt ws a = 4 ∧ M.bt ws a = 3 ∧ M.word ws a = 0 ∧ M.byte ws a = 0) ∨ (¬ a % 4 = 0 ∧ ¬ 4 * (ws.length : Int) ≤ a ∧ M.wt ws a = 4 ∧ M.bt ws a = 0 ∧ M.word ws a = 0) := by
  have hb : M.bt ws a = if 4 * (ws.length : Int) ≤ a then 3 else 0 := by
    unfold M.bt
    by_cases c : 4 * (ws.length : Int) ≤ a
    · rw [if_pos c, if_pos (by omega)]
    · rw [if_neg c, if_neg (by omega)]
  by_cases c1 : a % 4 = 0 <;> by_cases c2 : 4 * (ws.length : Int) ≤ a <;> simp only [M.word, M.byte, M.wt, c1, hb, c2, if_true, if_false] <;> simp
end Go.Proofs.Ytlmddkciamdldaa

/-
  Appends to a row of words of the call's own.
-/
namespace Go.Proofs.Ytlmddkciamdldaa
open Go.RowKit
set_option linter.unusedVariables false
set_option linter.unusedSimpArgs false
set_option maxRecDepth 100000
theorem below_but {N B : Nat} {a b c : World} (h : Below N a b) (k : But B b c) (hB : N ≤ B) (hN : N ≤ b.heap.size) : Below N a c :=
  h.trans ⟨k.os, k.tape, k.output, k.size, fun i hi => k.block i (by omega) (by omega)⟩
theorem below_kept {N : Nat} {a b c : World} (h : Below N a b) (k : Kept b c) (hN : N ≤ b.heap.size) : Below N a c := h.trans (k.below.mono hN)
/-- the slice at the head of the block g owns the words xs -/
def Own (base g n cap : Nat) (xs : List Int) (w : World) : Prop := w.ownsRow base 24 1 (.slice (some ⟨g, 0, none⟩) n cap) n (xs.map (Value.int .u32))
theorem Own.has {base g n cap : Nat} {xs : List Int} {w : World} (h : Own base g n cap xs w) : base ≤ g ∧ n ≤ cap ∧ cap ≤ maxLen ∧ xs.length = n ∧ ∃ cur : Array Value, Has g cur 24 w ∧ cur.size = cap ∧ cur.toList.take n = xs.map (Value.int .u32) := by
  obtain ⟨h1, h2⟩ := h
  rcases h2 with ⟨h2, _⟩ | ⟨g', cap', cur, hv, hb, hh, hle, hm, hs, ht⟩
  · cases h2
  · cases hv
    rw [Nat.mul_one] at hs ht h1
    exact ⟨hb, hle, hm, by simpa using h1, cur, hh, hs, ht⟩
theorem Own.ws {base g n cap : Nat} {xs : List Int} {w : World} (h : Own base g n cap xs w) (hr : ∀ x ∈ xs, 0 ≤ x ∧ x < 4294967296) : Ws w (some ⟨g, 0, none⟩) n cap xs := by
  obtain ⟨h1, h2, h3, h4, cur, hh, hs, ht⟩ := h.has
  refine ⟨h4, h2, h3, by simp, hr, fun ad e j x hx => ?_⟩
  cases e
  rw [show (⟨g, 0, none⟩ : Addr).add j = ⟨g, j, none⟩ by cases j <;> simp [Addr.add]]
  have hj : j < n := by
    rcases Nat.lt_or_ge j n with h1 | h1
    · exact h1
    · rw [List.getElem?_eq_none (by omega)] at hx; cases hx
  refine hh.cell j _ ?_
  have : (cur.toList.take n)[j]? = some (Value.int .u32 x) := by rw [ht, List.getElem?_map, hx]; rfl
  rw [List.getElem?_take, if_pos hj] at this
  simpa using this
/-- nothing, not nil -/
theorem Own.new (w : World) (base : Nat) (hb : base ≤ w.heap.size) : Own base w.heap.size 0 0 [] (w.alloc (.cells #[] 24)) :=
  ⟨rfl, Or.inr ⟨w.heap.size, 0, #[], rfl, hb, heap_alloc_last _ _, Nat.le_refl _, by simp [maxLen], rfl, rfl⟩⟩
theorem append_words {w : World} {ops : Array Oper} {rest : List Oper} {o : Oper} {a : Act} {Q : Exit → Act → World → Prop} (hgd : o.guard = none) (s x : Operand)
    (ho : o.op = .call { callee := .builtin .append, args := #[s, x], argTypes := #[28, 28] }) (base g n cap : Nat) (xs : List Int) (hs : a.eval s = .slice (some ⟨g, 0, none⟩) n cap) (hown : Own base g n cap xs w)
    (A : Option Addr) (m c : Nat) (ys : List Int) (hx : a.eval x = .slice A m c) (hY : Ws w A m c ys) (hb : n + m ≤ 1000000000000) (hbase : base ≤ w.heap.size)
    (h : ∀ g' cap' w', Own base g' (n + m) cap' (xs ++ ys) w' → w.grownBy w' (some g) → wpList Try.prog ops Q rest (a.put o.dst (.slice (some ⟨g', 0, none⟩) (n + m) cap')) w') : wpList Try.prog ops Q (o :: rest) a w := by
  obtain ⟨i0, hi, hz0, hz1, hz2⟩ := info_parts M.info32
  cases A with
  | none =>
    have hc := hY.nil rfl
    have hm : m = 0 := by have := hY.le; omega
    subst hc hm
    have hy : ys = [] := List.eq_nil_of_length_eq_zero hY.len
    subst hy
    refine wpList_append_own_none hgd s x 28 ho base 24 i0 1 Try.underlying28 hi _ n _ hs hown hx ?_
    have := h g cap w (by rw [Nat.add_zero, List.append_nil]; exact hown) ⟨rfl, rfl, rfl, Nat.le_refl _, fun _ _ _ => rfl⟩
    exact this
  | some ad =>
    refine wpList_append_own w hgd s x 28 ho base 24 i0 (.int .u32 0) 1 4 Try.underlying28 hi hz0 hz1 hz2 rfl (by decide) _ n (xs.map (Value.int .u32)) hs hown ad m c (ys.map (Value.int .u32)) hx (by rw [List.length_map, hY.len, Nat.mul_one]) ?_ ?_ (by unfold maxLen; omega) (by omega) hbase ?_
    · intro j u hj
      rw [List.getElem?_map, Option.map_eq_some_iff] at hj
      obtain ⟨y, hy, rfl⟩ := hj
      exact hY.cel ad rfl j y hy
    · intro u hu
      obtain ⟨y, _, rfl⟩ := List.mem_map.1 hu
      rfl
    · intro v' w' h1 h2 h3
      have hv : ∃ g' cap', v' = .slice (some ⟨g', 0, none⟩) (n + m) cap' := by
        rcases h1.2 with ⟨h4, _⟩ | ⟨g', cap', cur, h4, _⟩
        · have := (h3.1 h4).1
          cases this
        · exact ⟨g', cap', h4⟩
      obtain ⟨g', cap', rfl⟩ := hv
      rw [← List.map_append] at h1
      exact h g' cap' w' h1 h2
end Go.Proofs.Ytlmddkciamdldaa

/-
  Plain facts on numbers of 32 bits, for the walks of package word: no Go text is named here.
-/
namespace Go.Proofs.Ytlmddkciamdldaa.W
open Go.RowKit
set_option linter.unusedVariables false
set_option linter.unusedSimpArgs false
set_option maxRecDepth 100000

/-- a word as a signed number -/
def sgn (a : Int) : Int := if a < 2147483648 then a else a - 4294967296
/-- 1, if set -/
def one (c : Bool) : Int := if c then 1 else 0
/-- is it a signed number of 32 bits? -/
def inS (x : Int) : Bool := decide (-2147483648 ≤ x) && decide (x ≤ 2147483647)
/-- modulo two to the 32 -/
def low (x : Int) : Int := x % 4294967296
/-- is it above the greatest word? -/
def over (x : Int) : Bool := decide (4294967295 < x)
/-- is it below nought? -/
def neg (x : Int) : Bool := decide (x < 0)

theorem sgn_lo (a : Int) (h0 : 0 ≤ a) : -2147483648 ≤ sgn a := by unfold sgn; split <;> omega
theorem sgn_hi (a : Int) (h1 : a < 4294967296) : sgn a ≤ 2147483647 := by unfold sgn; split <;> omega
theorem wrap_sgn (a : Int) (h0 : 0 ≤ a) (h1 : a < 4294967296) : wrap64 (wrap32 a) = sgn a := by
  unfold wrap64 wrap32 sgn; split <;> omega
theorem wrap32_sgn (a : Int) (h0 : 0 ≤ a) (h1 : a < 4294967296) : wrap32 a = sgn a := by
  unfold wrap32 sgn; split <;> omega
theorem one_lo (c : Bool) : 0 ≤ one c := by cases c <;> decide
theorem one_hi (c : Bool) : one c ≤ 1 := by cases c <;> decide
theorem low_lo (x : Int) : 0 ≤ low x := by unfold low; omega
theorem low_hi (x : Int) : low x < 4294967296 := by unfold low; omega
/-- the product that is meant -/
def prod (u : Bool) (a b : Int) : Int := if u then a * b else sgn a * sgn b
theorem wrapU (p : Int) : IntKind.u64.wrap p % 4294967296 = low p := by rw [IntKind.wrap_u64]; unfold low; omega
theorem wrapU' (p : Int) : IntKind.u64.wrap p / 4294967296 % 4294967296 = low (p / 4294967296) := by rw [IntKind.wrap_u64]; unfold low; omega
theorem wrapS (p : Int) : IntKind.u64.wrap (wrap64 p) % 4294967296 = low p := by rw [IntKind.wrap_u64]; unfold low wrap64; omega
theorem wrapS' (p : Int) : IntKind.u64.wrap (wrap64 p) / 4294967296 % 4294967296 = low (p / 4294967296) := by rw [IntKind.wrap_u64]; unfold low wrap64; omega
theorem halves (a b : Int) : a * b = a % 65536 * (b % 65536) + (a % 65536 * (b / 65536) + a / 65536 * (b % 65536)) * 65536 + a / 65536 * (b / 65536) * 4294967296 := by
  have ha : a = a / 65536 * 65536 + a % 65536 := by omega
  have hb : b = b / 65536 * 65536 + b % 65536 := by omega
  generalize a / 65536 = y at *
  generalize a % 65536 = x at *
  generalize b / 65536 = v at *
  generalize b % 65536 = u at *
  subst ha hb
  have e1 : (y * 65536 + x) * (v * 65536 + u) = y * 65536 * (v * 65536) + y * 65536 * u + (x * (v * 65536) + x * u) := by
    rw [Int.add_mul, Int.mul_add, Int.mul_add]
  have e2 : y * 65536 * (v * 65536) = y * v * 4294967296 := by
    rw [Int.mul_assoc, Int.mul_comm 65536 (v * 65536), Int.mul_assoc, ← Int.mul_assoc]; rfl
  have e3 : y * 65536 * u = y * u * 65536 := by rw [Int.mul_assoc, Int.mul_comm 65536 u, ← Int.mul_assoc]
  have e4 : x * (v * 65536) = x * v * 65536 := by rw [← Int.mul_assoc]
  rw [e1, e2, e3, e4]; omega
theorem quo_pos (x y : Int) (_hy : 0 < y) (h : ¬ x.tmod y < 0) : x.tdiv y = x / y ∧ x.tmod y = x % y := by
  have h1 := Int.mul_tdiv_add_tmod x y
  have hlt := Int.tmod_lt_of_pos x _hy
  have hm : x % y = x.tmod y := by
    have : x = x.tmod y + y * x.tdiv y := by omega
    rw [this, Int.add_mul_emod_self_left]
    have e := Int.emod_eq_of_lt (a := x.tmod y) (b := y) (by omega) hlt
    rw [← this]; exact e
  have hd := Int.emod_add_mul_ediv x y
  refine ⟨?_, hm.symm⟩
  have : y * x.tdiv y = y * (x / y) := by omega
  exact Int.eq_of_mul_eq_mul_left (by omega) this
theorem quo_neg (x y : Int) (_hy : 0 < y) (h : x.tmod y < 0) : x.tdiv y - 1 = x / y ∧ x.tmod y + y = x % y := by
  have h1 := Int.mul_tdiv_add_tmod x y
  have hlt : -y < x.tmod y := Int.lt_tmod_of_pos x _hy
  have hm : x % y = x.tmod y + y := by
    have e0 : y * (x.tdiv y - 1) = y * x.tdiv y - y := by rw [Int.mul_sub, Int.mul_one]
    have : x = x.tmod y + y + y * (x.tdiv y - 1) := by rw [e0]; omega
    rw [this, Int.add_mul_emod_self_left, ← this]
    exact Int.emod_eq_of_lt (by omega) (by omega)
  have hd := Int.emod_add_mul_ediv x y
  refine ⟨?_, hm.symm⟩
  have e0 : y * (x.tdiv y - 1) = y * x.tdiv y - y := by rw [Int.mul_sub, Int.mul_one]
  have : y * (x.tdiv y - 1) = y * (x / y) := by rw [e0]; omega
  exact Int.eq_of_mul_eq_mul_left (by omega) this

theorem wrap64_low (x : Int) : wrap64 x % 4294967296 = low x := by unfold wrap64 low; omega

/-! what was added is subtracted -/
theorem back1 (a b o : Int) (h0 : 0 ≤ a) (h1 : a < 4294967296) : low (low (a + b + o) - b - o) = a := by unfold low; omega
theorem back2 (a b o : Int) (h0 : 0 ≤ a) (h1 : a < 4294967296) (h2 : 0 ≤ b) (h3 : b < 4294967296) (o1 : 0 ≤ o) (o2 : o ≤ 1) : neg (low (a + b + o) - b - o) = over (a + b + o) := by
  unfold low neg over; rw [decide_eq_decide]; omega
theorem back3 (a b o : Int) (h0 : 0 ≤ a) (h1 : a < 4294967296) : low (low (a - b - o) + b + o) = a := by unfold low; omega
def sl (a : Int) (m : Nat) : Int := a * 2 ^ m % 4294967296
def sr (a : Int) (m : Nat) : Int := sgn a / 2 ^ m % 4294967296
def ro (a : Int) (m : Nat) : Int := a / 2 ^ m + a * 2 ^ (32 - m) % 4294967296
def shiftN (k a : Int) (m : Nat) : Int := if k = 1 then sl a m else if k = 2 then sr a m else if k = 3 then ro a m else a
/-- what package word's Shift answers -/
def shift (k a n : Int) : Int := shiftN k a (n % 32).toNat
/-- one place -/
def step (k a : Int) : Int := if k = 1 then a * 2 % 4294967296 else if k = 2 then a / 2 + a / 2147483648 * 2147483648 else if k = 3 then a / 2 + a % 2 * 2147483648 else a

theorem cases32 (m : Nat) (h : m < 32) : m = 0 ∨ m = 1 ∨ m = 2 ∨ m = 3 ∨ m = 4 ∨ m = 5 ∨ m = 6 ∨ m = 7 ∨ m = 8 ∨ m = 9 ∨ m = 10 ∨ m = 11 ∨ m = 12 ∨ m = 13 ∨ m = 14 ∨ m = 15 ∨ m = 16 ∨ m = 17 ∨ m = 18 ∨ m = 19 ∨ m = 20 ∨ m = 21 ∨ m = 22 ∨ m = 23 ∨ m = 24 ∨ m = 25 ∨ m = 26 ∨ m = 27 ∨ m = 28 ∨ m = 29 ∨ m = 30 ∨ m = 31 := by omega
theorem sl_step (a : Int) (m : Nat) (h : m < 31) : sl a m * 2 % 4294967296 = sl a (m + 1) := by
  unfold sl; rw [Int.pow_succ, ← Int.mul_assoc]; omega
theorem sr_step (a : Int) (m : Nat) (h : m < 31) (h0 : 0 ≤ a) (h1 : a < 4294967296) : sr a m / 2 + sr a m / 2147483648 * 2147483648 = sr a (m + 1) := by
  have s1 := sgn_lo a h0
  have s2 := sgn_hi a h1
  unfold sr
  generalize sgn a = s at *
  rcases cases32 m (by omega) with r | r | r | r | r | r | r | r | r | r | r | r | r | r | r | r | r | r | r | r | r | r | r | r | r | r | r | r | r | r | r | r <;> subst r <;> simp only [Nat.reduceAdd, Int.reducePow] <;> omega
theorem pow_pos2 (m : Nat) : (0 : Int) < 2 ^ m := Int.pow_pos (by decide)
theorem pow_split (m n : Nat) (h : n = m) : (2 : Int) ^ n = 2 ^ m := by rw [h]
theorem ro_alt (a : Int) (m : Nat) (h : m ≤ 32) : ro a m = a / 2 ^ m + a % 2 ^ m * 2 ^ (32 - m) := by
  unfold ro
  have e : (4294967296 : Int) = 2 ^ (32 - m) * 2 ^ m := by
    rw [← Int.pow_add, pow_split 32 (32 - m + m) (by omega)]; rfl
  rw [e, Int.mul_comm a, Int.mul_emod_mul_of_pos _ _ (pow_pos2 _), Int.mul_comm (2 ^ (32 - m))]
theorem div_step (a : Int) (m : Nat) : a / 2 ^ (m + 1) = a / 2 ^ m / 2 := by
  have hp := pow_pos2 m
  rw [Int.ediv_ediv, if_neg (by omega), Int.pow_succ]; omega
theorem mod_step (a : Int) (m : Nat) : a % 2 ^ (m + 1) = a / 2 ^ m % 2 * 2 ^ m + a % 2 ^ m := by
  have h1 := Int.emod_add_mul_ediv a (2 ^ m)
  have h2 := Int.emod_add_mul_ediv a (2 ^ (m + 1))
  rw [div_step a m, Int.pow_succ, Int.mul_assoc] at h2
  rw [Int.pow_succ]
  have h3 : 2 ^ m * (a / 2 ^ m) = 2 ^ m * (2 * (a / 2 ^ m / 2)) + a / 2 ^ m % 2 * 2 ^ m := by
    rw [Int.mul_comm (a / 2 ^ m % 2), ← Int.mul_add]
    congr 1; omega
  omega
theorem ro_step (a : Int) (m : Nat) (h : m < 32) : ro a m / 2 + ro a m % 2 * 2147483648 = ro a (m + 1) := by
  rw [ro_alt a m (by omega), ro_alt a (m + 1) (by omega), div_step, mod_step]
  have e1 : (2 : Int) ^ (32 - m) = 2 ^ (32 - (m + 1)) * 2 := by
    rw [← Int.pow_succ]; exact pow_split _ _ (by omega)
  have e2 : (2147483648 : Int) = 2 ^ m * 2 ^ (32 - (m + 1)) := by
    rw [← Int.pow_add, pow_split 31 (m + (32 - (m + 1))) (by omega)]; rfl
  rw [e1, Int.add_mul, Int.mul_assoc (a / 2 ^ m % 2), ← e2, ← Int.mul_assoc (a % 2 ^ m)]
  omega
theorem ro_zero (a : Int) : ro a 0 = a := by unfold ro; simp only [Int.reducePow, Nat.sub_zero]; omega
theorem sl_zero (a : Int) (h0 : 0 ≤ a) (h1 : a < 4294967296) : sl a 0 = a := by unfold sl; simp only [Int.reducePow]; omega
theorem sr_zero (a : Int) (h0 : 0 ≤ a) (h1 : a < 4294967296) : sr a 0 = a := by
  unfold sr sgn; simp only [Int.reducePow]; split <;> omega
theorem step_lo (k a : Int) (h0 : 0 ≤ a) : 0 ≤ step k a := by
  unfold step; repeat' split
  all_goals omega
theorem step_hi (k a : Int) (h0 : 0 ≤ a) (h1 : a < 4294967296) : step k a < 4294967296 := by
  unfold step; repeat' split
  all_goals omega
theorem shiftN_step (k a : Int) (m : Nat) (h : m < 31) (h0 : 0 ≤ a) (h1 : a < 4294967296) : step k (shiftN k a m) = shiftN k a (m + 1) := by
  unfold step shiftN
  by_cases e1 : k = 1
  · simp only [e1, if_true]; exact sl_step a m h
  · by_cases e2 : k = 2
    · simp only [e2, if_true, if_neg (show ¬ (2 : Int) = 1 by decide)]; exact sr_step a m h h0 h1
    · by_cases e3 : k = 3
      · simp only [e3, if_true, if_neg (show ¬ (3 : Int) = 1 by decide), if_neg (show ¬ (3 : Int) = 2 by decide)]; exact ro_step a m (by omega)
      · simp only [if_neg e1, if_neg e2, if_neg e3]
theorem shiftN_zero (k a : Int) (h0 : 0 ≤ a) (h1 : a < 4294967296) : shiftN k a 0 = a := by
  unfold shiftN
  split
  · exact sl_zero a h0 h1
  · split
    · exact sr_zero a h0 h1
    · split
      · exact ro_zero a
      · rfl
theorem shiftN_in (k a : Int) (m : Nat) (h : m < 32) (h0 : 0 ≤ a) (h1 : a < 4294967296) : 0 ≤ shiftN k a m ∧ shiftN k a m < 4294967296 := by
  induction m with
  | zero => rw [shiftN_zero k a h0 h1]; exact ⟨h0, h1⟩
  | succ m ih =>
    have := ih (by omega)
    rw [← shiftN_step k a m (by omega) h0 h1]
    exact ⟨step_lo k _ this.1, step_hi k _ this.1 this.2⟩
/-- to turn by 32 in all -/
theorem ro_back (a : Int) (x : Nat) (h : x < 32) (hx : 0 < x) (h0 : 0 ≤ a) (h1 : a < 4294967296) : ro (ro a x) (32 - x) = a := by
  rw [ro_alt a x (by omega), ro_alt _ (32 - x) (by omega)]
  have e : 32 - (32 - x) = x := by omega
  rw [e]
  have hp := pow_pos2 x
  have hq := pow_pos2 (32 - x)
  have hlt : a / 2 ^ x < 2 ^ (32 - x) := by
    apply Int.ediv_lt_of_lt_mul hp
    rw [← Int.pow_add, pow_split 32 (32 - x + x) (by omega)]; omega
  have hge : 0 ≤ a / 2 ^ x := Int.ediv_nonneg h0 (by omega)
  have hr := Int.emod_nonneg a (b := 2 ^ x) (by omega)
  rw [Int.add_mul_ediv_right _ _ (by omega), Int.ediv_eq_zero_of_lt hge hlt, Int.mul_comm (a % 2 ^ x), Int.add_mul_emod_self_left, Int.emod_eq_of_lt hge hlt]
  have := Int.emod_add_mul_ediv a (2 ^ x)
  rw [Int.mul_comm (a / 2 ^ x)]; omega
theorem ro_bits (a : Int) (m : Nat) (h : m < 32) (h0 : 0 ≤ a) (h1 : a < 4294967296) (hk : ((32 - (m : Int)).toNat) = 32 - m) :
    bits .or .u32 (a / 2 ^ m) (a * 2 ^ (32 - (m : Int)).toNat % 4294967296) = ro a m := by
  rw [hk]
  have e := ro_alt a m (by omega)
  unfold ro at e ⊢
  have hp := pow_pos2 m
  have hq := pow_pos2 (32 - m)
  have hge : 0 ≤ a / 2 ^ m := Int.ediv_nonneg h0 (by omega)
  have hlt : a / 2 ^ m < 2 ^ (32 - m) := by
    apply Int.ediv_lt_of_lt_mul hp
    rw [← Int.pow_add, pow_split 32 (32 - m + m) (by omega)]; omega
  have hle : (2 : Int) ^ (32 - m) ≤ 4294967296 := by
    have h2 := Nat.pow_le_pow_right (n := 2) (by decide) (show 32 - m ≤ 32 by omega)
    have h3 : ((2 ^ (32 - m) : Nat) : Int) ≤ ((2 ^ 32 : Nat) : Int) := Int.ofNat_le.2 h2
    rw [Int.natCast_pow] at h3
    exact h3
  have e' : a * 2 ^ (32 - m) % 4294967296 = a % 2 ^ m * 2 ^ (32 - m) := by omega
  rw [u32_or _ _ hge (by omega) (by omega) (by omega), Nat.or_comm, nat_join (32 - m)]
  · omega
  · have hr := Int.emod_nonneg a (b := 2 ^ m) (by omega)
    rw [e']
    obtain ⟨r, hr'⟩ := Int.eq_ofNat_of_zero_le hr
    rw [hr', show (2 : Int) ^ (32 - m) = ((2 ^ (32 - m) : Nat) : Int) from by rw [Int.natCast_pow]; rfl, ← Int.natCast_mul, Int.toNat_natCast, Nat.mul_mod_left]
  · have : ((a / 2 ^ m).toNat : Int) < ((2 ^ (32 - m) : Nat) : Int) := by
      rw [Int.natCast_pow, Int.toNat_of_nonneg hge]; exact hlt
    omega
theorem shift_lo (k a n : Int) (h0 : 0 ≤ a) (h1 : a < 4294967296) : 0 ≤ shift k a n := (shiftN_in k a _ (by omega) h0 h1).1
theorem shift_hi (k a n : Int) (h0 : 0 ≤ a) (h1 : a < 4294967296) : shift k a n < 4294967296 := (shiftN_in k a _ (by omega) h0 h1).2
theorem sgn_low (a : Int) (h0 : 0 ≤ a) (h1 : a < 4294967296) : low (sgn a) = a := by unfold low sgn; split <;> omega
/-! differences, both ways about -/
theorem sgn_id (a : Int) (h : a < 2147483648) : sgn a = a := by unfold sgn; rw [if_pos h]
theorem div_one (a : Int) (h0 : 0 ≤ a) (h1 : a < 4294967296) : low (sgn a / sgn 1) = a ∧ low (sgn a % sgn 1) = 0 := by
  rw [sgn_id 1 (by decide), Int.ediv_one, Int.emod_one]; exact ⟨sgn_low a h0 h1, rfl⟩

/-! numbers of 64 bits by halves -/
end Go.Proofs.Ytlmddkciamdldaa.W

/-
  Plain facts on parts of words, bit by bit, for the walks of package field: no Go text is named here.
-/
namespace Go.Proofs.Ytlmddkciamdldaa.F
open Go.RowKit
set_option linter.unusedVariables false
set_option linter.unusedSimpArgs false
set_option maxRecDepth 100000

/-- the number whose k lowest bits are f's -/
def ofB (f : Nat → Bool) : Nat → Nat
  | 0 => 0
  | k + 1 => ofB f k ||| (if f k then 2 ^ k else 0)
theorem testBit_ofB (f : Nat → Bool) (k i : Nat) : (ofB f k).testBit i = (decide (i < k) && f i) := by
  induction k with
  | zero => simp [ofB]
  | succ k ih =>
    rw [ofB, Nat.testBit_or, ih]
    by_cases h : i = k
    · subst h; cases hf : f i <;> simp [Nat.testBit_two_pow]
    · have e : decide (i < k + 1) = decide (i < k) := by rw [decide_eq_decide]; omega
      rw [e]
      split
      · rw [Nat.testBit_two_pow, decide_eq_false (show ¬ k = i by omega)]; simp
      · simp
theorem ofB_lt (f : Nat → Bool) (k : Nat) : ofB f k < 2 ^ k := by
  apply Nat.lt_pow_two_of_testBit; intro i hi; rw [testBit_ofB, decide_eq_false (by omega)]; rfl
theorem big_bit (x i : Nat) (hx : x < 4294967296) (hi : 32 ≤ i) : x.testBit i = false :=
  Nat.testBit_lt_two_pow (Nat.lt_of_lt_of_le hx (by have := Nat.pow_le_pow_right (n := 2) (by decide) hi; omega))

/-- what is got of x, up to the bit i -/
def getP (x : Nat) (a n i : Int) : Nat :=
  ofB (fun j => decide ((j : Int) < n) && decide (0 ≤ (j : Int) + a) && decide ((j : Int) + a < i) && x.testBit ((j : Int) + a).toNat) 32
/-- w with the field set to x, up to the bit i -/
def setP (w x : Nat) (a n i : Int) : Nat :=
  ofB (fun j => if a ≤ (j : Int) ∧ (j : Int) - a < n ∧ (j : Int) < i then x.testBit ((j : Int) - a).toNat else w.testBit j) 32
theorem getP_bit (x : Nat) (a n i : Int) (k : Nat) : (getP x a n i).testBit k =
    (decide (k < 32) && (decide ((k : Int) < n) && decide (0 ≤ (k : Int) + a) && decide ((k : Int) + a < i) && x.testBit ((k : Int) + a).toNat)) := testBit_ofB _ _ _
theorem setP_bit (w x : Nat) (a n i : Int) (k : Nat) : (setP w x a n i).testBit k =
    (decide (k < 32) && (if a ≤ (k : Int) ∧ (k : Int) - a < n ∧ (k : Int) < i then x.testBit ((k : Int) - a).toNat else w.testBit k)) := testBit_ofB _ _ _
theorem getP_lt (x : Nat) (a n i : Int) : getP x a n i < 4294967296 := ofB_lt _ 32
theorem setP_lt (w x : Nat) (a n i : Int) : setP w x a n i < 4294967296 := ofB_lt _ 32

/-- the bit, as a number -/
theorem bit_one (x i : Nat) (hx : x < 4294967296) : bits .and .u32 ((x : Int) / 2 ^ i) 1 = ((if x.testBit i then 1 else 0 : Nat) : Int) := by
  have e : ((x : Int) / 2 ^ i) = ((x / 2 ^ i : Nat) : Int) := by rw [Int.natCast_ediv, Int.natCast_pow]; rfl
  have hlt : x / 2 ^ i < 4294967296 := Nat.lt_of_le_of_lt (Nat.div_le_self _ _) hx
  have h := u32_and_nat (x / 2 ^ i) 1 hlt (by decide)
  rw [e]
  refine Eq.trans h ?_
  rw [Nat.and_one_is_mod, Nat.testBit_eq_decide_div_mod_eq]
  congr 1
  by_cases hb : x / 2 ^ i % 2 = 1
  · rw [hb]; simp
  · have : x / 2 ^ i % 2 = 0 := by omega
    rw [this]; simp
theorem bit_shl (b : Bool) (m : Nat) : (((if b then 1 else 0 : Nat) : Int) * 2 ^ m % 4294967296) = ((if b then 2 ^ m % 4294967296 else 0 : Nat) : Int) := by
  cases b
  · simp
  · simp only [if_true, Int.natCast_emod, Int.natCast_pow]; simp
theorem pow_bit (m k : Nat) : (2 ^ m % 4294967296 : Nat).testBit k = (decide (k = m) && decide (k < 32)) := by
  have e : (4294967296 : Nat) = 2 ^ 32 := rfl
  rw [e, Nat.testBit_mod_two_pow, Nat.testBit_two_pow, Bool.and_comm]
  congr 1
  rw [decide_eq_decide]; omega
theorem pow_lt (m : Nat) : (2 ^ m % 4294967296 : Nat) < 4294967296 := Nat.mod_lt _ (by decide)
theorem if_lt (b : Bool) (m : Nat) (h : m < 4294967296) : (if b then m else 0) < 4294967296 := by cases b <;> simp <;> omega

/-- what Get's round leaves -/
def gval (p x i pl : Int) : Int := bits .or .u32 p (bits .and .u32 (x / 2 ^ i.toNat) 1 * 2 ^ min pl.toNat 32 % 4294967296)
/-- what Set's round leaves -/
def sval (p x i pl : Int) : Int := bits .or .u32 (bits .andNot .u32 p (2 ^ i.toNat % 4294967296)) (bits .and .u32 (x / 2 ^ min pl.toNat 32) 1 * 2 ^ i.toNat % 4294967296)

theorem gval_nat (p x i pl : Nat) (hp : p < 4294967296) (hx : x < 4294967296) :
    gval p x i pl = ((p ||| (if x.testBit i then 2 ^ min pl 32 % 4294967296 else 0) : Nat) : Int) := by
  unfold gval
  rw [Int.toNat_natCast, Int.toNat_natCast, bit_one x i hx, bit_shl]
  exact u32_or_nat _ _ hp (if_lt _ _ (pow_lt _))
theorem sval_nat (p x i pl : Nat) (hp : p < 4294967296) (hx : x < 4294967296) (hi : i < 32) :
    sval p x i pl = (((p &&& (4294967295 - 2 ^ i % 4294967296)) ||| (if x.testBit (min pl 32) then 2 ^ i % 4294967296 else 0) : Nat) : Int) := by
  unfold sval
  rw [Int.toNat_natCast, Int.toNat_natCast, bit_one x _ hx, bit_shl]
  have e : ((2 : Int) ^ i % 4294967296) = ((2 ^ i % 4294967296 : Nat) : Int) := by
    rw [Int.natCast_emod, Int.natCast_pow]; rfl
  rw [e, u32_andNot_nat _ _ hp (pow_lt _)]
  exact u32_or_nat _ _ (Nat.lt_of_le_of_lt Nat.and_le_left hp) (if_lt _ _ (pow_lt _))
theorem not_bit (y k : Nat) (h : y < 4294967296) : (4294967295 - y).testBit k = (decide (k < 32) && !y.testBit k) := by
  have e : 4294967295 - y = 2 ^ 32 - (y + 1) := by omega
  rw [e, Nat.testBit_two_pow_sub_succ h]
theorem get_step (x : Nat) (a n : Int) (i : Nat) (hx : x < 4294967296) (hi : i < 32) (h0 : 0 ≤ (i : Int) - a) (h1 : (i : Int) - a < n) :
    gval (getP x a n i) x i ((i : Int) - a) = (getP x a n ((i : Int) + 1) : Nat) := by
  obtain ⟨pl, hpl⟩ := Int.eq_ofNat_of_zero_le h0
  rw [hpl, gval_nat _ _ _ _ (getP_lt _ _ _ _) hx]
  congr 1
  apply Nat.eq_of_testBit_eq
  intro k
  rw [Nat.testBit_or, getP_bit, getP_bit]
  by_cases hk : k < 32
  · by_cases hkp : k = pl
    · subst hkp
      have e : (k : Int) + a = i := by omega
      rw [e, decide_eq_true hk, decide_eq_true (show (k : Int) < n by omega), decide_eq_true (show (0 : Int) ≤ i by omega), decide_eq_false (show ¬ (i : Int) < i by omega), decide_eq_true (show (i : Int) < i + 1 by omega), Int.toNat_natCast]
      have e2 : min k 32 = k := by omega
      rw [e2]
      split
      · rename_i hb; rw [pow_bit, hb]; simp [hk]
      · rename_i hb; simp only [Bool.not_eq_true] at hb; rw [hb]; simp
    · have e : decide ((k : Int) + a < i + 1) = decide ((k : Int) + a < i) := by rw [decide_eq_decide]; omega
      rw [e]
      have z : (if x.testBit i = true then 2 ^ min pl 32 % 4294967296 else 0).testBit k = false := by
        split
        · rw [pow_bit, decide_eq_false (by omega)]; rfl
        · simp
      rw [z, Bool.or_false]
  · rw [decide_eq_false hk]
    have z : (if x.testBit i = true then 2 ^ min pl 32 % 4294967296 else 0).testBit k = false := by
      split
      · rw [pow_bit, decide_eq_false hk, Bool.and_false]
      · simp
    rw [z]; rfl
theorem set_step (w x : Nat) (a n : Int) (i : Nat) (hx : x < 4294967296) (hi : i < 32) (h0 : 0 ≤ (i : Int) - a) (h1 : (i : Int) - a < n) :
    sval (setP w x a n i) x i ((i : Int) - a) = (setP w x a n ((i : Int) + 1) : Nat) := by
  obtain ⟨pl, hpl⟩ := Int.eq_ofNat_of_zero_le h0
  rw [hpl, sval_nat _ _ _ _ (setP_lt _ _ _ _ _) hx hi]
  congr 1
  have hm : x.testBit (min pl 32) = x.testBit pl := by
    by_cases h : pl ≤ 32
    · rw [Nat.min_eq_left h]
    · rw [big_bit x _ hx (by omega), big_bit x pl hx (by omega)]
  rw [hm]
  apply Nat.eq_of_testBit_eq
  intro k
  rw [Nat.testBit_or, Nat.testBit_and, not_bit _ _ (pow_lt _), pow_bit, setP_bit, setP_bit]
  by_cases hk : k < 32
  · by_cases hki : k = i
    · subst hki
      rw [decide_eq_true hk, if_neg (show ¬ (a ≤ (k : Int) ∧ (k : Int) - a < n ∧ (k : Int) < k) by omega), if_pos (show a ≤ (k : Int) ∧ (k : Int) - a < n ∧ (k : Int) < (k : Int) + 1 by omega), hpl]
      simp only [Int.toNat_natCast, decide_true, Bool.and_true, Bool.not_true, Bool.and_false, Bool.false_or, Bool.true_and]
      split
      · rename_i hb; rw [pow_bit, hb]; simp [hk]
      · rename_i hb; simp only [Bool.not_eq_true] at hb; rw [hb]; simp
    · rw [decide_eq_true hk, decide_eq_false hki]
      have z : (if x.testBit pl = true then 2 ^ i % 4294967296 else 0).testBit k = false := by
        split
        · rw [pow_bit, decide_eq_false hki]; rfl
        · simp
      rw [z]
      have c : (a ≤ (k : Int) ∧ (k : Int) - a < n ∧ (k : Int) < i) ↔ (a ≤ (k : Int) ∧ (k : Int) - a < n ∧ (k : Int) < (i : Int) + 1) := by omega
      simp only [c]; simp
  · rw [decide_eq_false hk]
    have z : (if x.testBit pl = true then 2 ^ i % 4294967296 else 0).testBit k = false := by
      split
      · rw [pow_bit, decide_eq_false hk, Bool.and_false]
      · simp
    rw [z]; rfl
theorem get_start (x : Nat) (a n i : Int) (h : i ≤ 0 ∨ i ≤ a) : getP x a n i = 0 := by
  apply Nat.eq_of_testBit_eq
  intro k
  rw [getP_bit, Nat.zero_testBit]
  by_cases h1 : 0 ≤ (k : Int) + a
  · rw [decide_eq_false (show ¬ (k : Int) + a < i by omega)]; simp
  · rw [decide_eq_false h1]; simp
theorem set_start (w x : Nat) (a n i : Int) (hw : w < 4294967296) (h : i ≤ 0 ∨ i ≤ a) : setP w x a n i = w := by
  apply Nat.eq_of_testBit_eq
  intro k
  rw [setP_bit, if_neg (by omega)]
  by_cases hk : k < 32
  · rw [decide_eq_true hk]; rfl
  · rw [decide_eq_false hk, big_bit w k hw (by omega)]; rfl
/-- behind the field nothing turns -/
theorem get_end (x : Nat) (a n i i' : Int) (hi : i ≤ i') (h : n ≤ i - a ∨ i' ≤ a ∨ n ≤ 0) : getP x a n i' = getP x a n i := by
  apply Nat.eq_of_testBit_eq
  intro k
  rw [getP_bit, getP_bit]
  by_cases h1 : (k : Int) < n
  · rw [show decide ((k : Int) + a < i') = decide ((k : Int) + a < i) from by rw [decide_eq_decide]; omega]
  · rw [decide_eq_false h1]; simp
theorem set_end (w x : Nat) (a n i i' : Int) (hi : i ≤ i') (h : n ≤ i - a ∨ i' ≤ a ∨ n ≤ 0) : setP w x a n i' = setP w x a n i := by
  apply Nat.eq_of_testBit_eq
  intro k
  rw [setP_bit, setP_bit]
  have c : (a ≤ (k : Int) ∧ (k : Int) - a < n ∧ (k : Int) < i') ↔ (a ≤ (k : Int) ∧ (k : Int) - a < n ∧ (k : Int) < i) := by omega
  simp only [c]
theorem get_stepI (x a n i : Int) (hx0 : 0 ≤ x) (hx : x < 4294967296) (hi0 : 0 ≤ i) (hi : i < 32) (h0 : a ≤ i) (h1 : i - a < n) :
    gval (getP x.toNat a n i : Nat) x i (i - a) = (getP x.toNat a n (i + 1) : Nat) := by
  obtain ⟨X, rfl⟩ := Int.eq_ofNat_of_zero_le hx0
  obtain ⟨I, rfl⟩ := Int.eq_ofNat_of_zero_le hi0
  rw [Int.toNat_natCast]
  exact get_step X a n I (by omega) (by omega) (by omega) h1
theorem set_stepI (w x a n i : Int) (hx0 : 0 ≤ x) (hx : x < 4294967296) (hi0 : 0 ≤ i) (hi : i < 32) (h0 : a ≤ i) (h1 : i - a < n) :
    sval (setP w.toNat x.toNat a n i : Nat) x i (i - a) = (setP w.toNat x.toNat a n (i + 1) : Nat) := by
  obtain ⟨X, rfl⟩ := Int.eq_ofNat_of_zero_le hx0
  obtain ⟨I, rfl⟩ := Int.eq_ofNat_of_zero_le hi0
  rw [Int.toNat_natCast]
  exact set_step w.toNat X a n I (by omega) (by omega) (by omega) h1
theorem place_neg (k a : Int) (h : a < 0) (h0 : -9223372036854775808 ≤ a) (hk : 0 ≤ k) (hk1 : k < 32) : IntKind.u64.wrap (k - IntKind.u64.wrap a) = k - a := by
  rw [IntKind.wrap_u64, IntKind.wrap_u64]; omega
/-- what Get answers -/
def get (x a n : Int) : Int := (getP x.toNat a n 32 : Nat)
/-- what Set answers -/
def set (w a n x : Int) : Int := (setP w.toNat x.toNat a n 32 : Nat)
theorem set_lo (w a n x : Int) : 0 ≤ set w a n x := by unfold set; omega
theorem set_hi (w a n x : Int) : set w a n x < 4294967296 := by have := setP_lt w.toNat x.toNat a n 32; unfold set; omega

/-! signed numbers of k bits -/
def clamp (n : Int) : Int := if n < 1 then 1 else if 32 < n then 32 else n
theorem clamp_lo (n : Int) : 1 ≤ clamp n := by unfold clamp; split <;> (try split) <;> omega
theorem clamp_hi (n : Int) : clamp n ≤ 32 := by unfold clamp; split <;> (try split) <;> omega
theorem clamp_1 (n : Int) (h : n < 1) : clamp n = 1 := by unfold clamp; rw [if_pos h]
theorem clamp_32 (n : Int) (h : 32 < n) : clamp n = 32 := by unfold clamp; rw [if_neg (by omega), if_pos h]
theorem clamp_in (n : Int) (h : 1 ≤ n) (h' : n ≤ 32) : clamp n = n := by unfold clamp; rw [if_neg (by omega), if_neg (by omega)]
/-- the lowest k bits of x, signed -/
def sgnd (x k : Int) : Int := if x % 2 ^ k.toNat < 2 ^ (k.toNat - 1) then x % 2 ^ k.toNat else x % 2 ^ k.toNat - 2 ^ k.toNat
/-- is v a signed number of k bits? -/
def fitsK (v k : Int) : Bool := decide (-2 ^ (k.toNat - 1) ≤ v) && decide (v < 2 ^ (k.toNat - 1))
theorem cases32 (k : Int) (h : 1 ≤ k) (h' : k ≤ 32) : k = 1 ∨ k = 2 ∨ k = 3 ∨ k = 4 ∨ k = 5 ∨ k = 6 ∨ k = 7 ∨ k = 8 ∨ k = 9 ∨ k = 10 ∨ k = 11 ∨ k = 12 ∨ k = 13 ∨ k = 14 ∨ k = 15 ∨ k = 16 ∨ k = 17 ∨ k = 18 ∨ k = 19 ∨ k = 20 ∨ k = 21 ∨ k = 22 ∨ k = 23 ∨ k = 24 ∨ k = 25 ∨ k = 26 ∨ k = 27 ∨ k = 28 ∨ k = 29 ∨ k = 30 ∨ k = 31 ∨ k = 32 := by omega
theorem half_lo (k : Int) : (1 : Int) ≤ 2 ^ (k.toNat - 1) := by have := Int.pow_pos (n := 2) (m := k.toNat - 1) (by decide); omega
theorem half_hi (k : Int) (h : k ≤ 32) : (2 : Int) ^ (k.toNat - 1) ≤ 2147483648 := by
  have h2 := Nat.pow_le_pow_right (n := 2) (by decide) (show k.toNat - 1 ≤ 31 by omega)
  have h3 : ((2 ^ (k.toNat - 1) : Nat) : Int) ≤ ((2 ^ 31 : Nat) : Int) := Int.ofNat_le.2 h2
  rw [Int.natCast_pow] at h3
  exact h3
theorem sgnd_shift (x k : Int) (hx0 : 0 ≤ x) (hx1 : x < 4294967296) (h : 1 ≤ k) (h' : k ≤ 32) :
    wrap64 (wrap32 (x * 2 ^ (32 - k).toNat % 4294967296) / 2 ^ (32 - k).toNat) = sgnd x k := by
  rcases cases32 k h h' with r | r | r | r | r | r | r | r | r | r | r | r | r | r | r | r | r | r | r | r | r | r | r | r | r | r | r | r | r | r | r | r <;> subst r <;> unfold sgnd wrap64 wrap32 <;> simp only [Int.reduceSub, Int.reduceToNat, Int.reducePow, Nat.reduceSub] <;> split <;> omega
end Go.Proofs.Ytlmddkciamdldaa.F

/-
  Instructions as plain data: which may be, their words, and what a word says. No Go text is named here.
-/
namespace Go.Proofs.Ytlmddkciamdldaa
set_option linter.unusedVariables false
set_option linter.unusedSimpArgs false
set_option maxRecDepth 100000
namespace I
/-- a register -/
def reg (n : Int) : Bool := decide (0 ≤ n) && decide (n ≤ 15)
def bit (u : Bool) : Int := if u then 1 else 0
def nb (op b : Int) : Int := if op = 0 then 0 else b
def carry (op : Int) : Bool := decide (8 ≤ op) && decide (op ≤ 10)
def isOp (k op : Int) : Bool :=
  if k = 1 ∨ k = 2 then decide (0 ≤ op) && decide (op ≤ 11)
  else if k = 3 ∨ k = 4 then op == 0
  else if k = 5 then decide (0 ≤ op) && decide (op ≤ 3)
  else if k = 6 ∨ k = 7 then decide (0 ≤ op) && decide (op ≤ 15)
  else false
def isNum (k op i : Int) (u : Bool) : Bool :=
  if k = 2 then F.fitsK i 17 && !(op == 0 && u && decide (i < 0))
  else if k = 5 then F.fitsK i 20
  else if k = 7 then F.fitsK i 24
  else i == 0
/-- an instruction: Kind, Op, A, B, C, Imm, U -/
structure Ins where
  k : Int
  op : Int
  a : Int
  b : Int
  c : Int
  i : Int
  u : Bool
deriving DecidableEq
/-- without all that its kind and operation do not name -/
def named (x : Ins) : Ins :=
  if x.k = 1 then ⟨x.k, x.op, x.a, nb x.op x.b, x.c, 0, x.u && carry x.op⟩
  else if x.k = 2 then ⟨x.k, x.op, x.a, nb x.op x.b, 0, x.i, x.u && (x.op == 0 || carry x.op)⟩
  else if x.k = 3 ∨ x.k = 4 then ⟨x.k, 0, x.a, 0, 0, 0, false⟩
  else if x.k = 5 then ⟨x.k, x.op, x.a, x.b, 0, x.i, false⟩
  else if x.k = 6 then ⟨x.k, x.op, 0, 0, x.c, 0, x.u⟩
  else if x.k = 7 then ⟨x.k, x.op, 0, 0, 0, x.i, x.u⟩
  else ⟨0, 0, 0, 0, 0, 0, false⟩
/-- P3.1, row by row -/
def May (x : Ins) : Prop :=
  (0 ≤ x.a ∧ x.a ≤ 15 ∧ 0 ≤ x.b ∧ x.b ≤ 15 ∧ 0 ≤ x.c ∧ x.c ≤ 15) ∧
  ((x.k = 1 ∧ 0 ≤ x.op ∧ x.op ≤ 11 ∧ (x.op = 0 → x.b = 0) ∧ (x.u = true → 8 ≤ x.op ∧ x.op ≤ 10) ∧ x.i = 0) ∨
   (x.k = 2 ∧ 0 ≤ x.op ∧ x.op ≤ 11 ∧ (x.op = 0 → x.b = 0) ∧ (x.u = true → x.op = 0 ∨ 8 ≤ x.op ∧ x.op ≤ 10) ∧ x.c = 0 ∧ -65536 ≤ x.i ∧ x.i ≤ 65535 ∧ (x.op = 0 → x.u = true → 0 ≤ x.i)) ∨
   ((x.k = 3 ∨ x.k = 4) ∧ x.op = 0 ∧ x.b = 0 ∧ x.c = 0 ∧ x.i = 0 ∧ x.u = false) ∨
   (x.k = 5 ∧ 0 ≤ x.op ∧ x.op ≤ 3 ∧ x.c = 0 ∧ -524288 ≤ x.i ∧ x.i ≤ 524287 ∧ x.u = false) ∨
   (x.k = 6 ∧ 0 ≤ x.op ∧ x.op ≤ 15 ∧ x.a = 0 ∧ x.b = 0 ∧ x.i = 0) ∨
   (x.k = 7 ∧ 0 ≤ x.op ∧ x.op ≤ 15 ∧ x.a = 0 ∧ x.b = 0 ∧ x.c = 0 ∧ -8388608 ≤ x.i ∧ x.i ≤ 8388607))
noncomputable instance (x : Ins) : Decidable (May x) := Classical.propDecidable _
noncomputable def may (x : Ins) : Bool := decide (May x)
theorem fits17 (i : Int) : F.fitsK i 17 = (decide (-65536 ≤ i) && decide (i < 65536)) := by unfold F.fitsK; simp
theorem fits20 (i : Int) : F.fitsK i 20 = (decide (-524288 ≤ i) && decide (i < 524288)) := by unfold F.fitsK; simp
theorem fits24 (i : Int) : F.fitsK i 24 = (decide (-8388608 ≤ i) && decide (i < 8388608)) := by unfold F.fitsK; simp
/-- the program's way to say it -/
theorem may_named (x : Ins) : (decide (x = named x) && isOp x.k x.op && reg x.a && reg x.b && reg x.c && isNum x.k x.op x.i x.u) = may x := by
  rw [Bool.eq_iff_iff]
  obtain ⟨k, op, a, b, c, i, u⟩ := x
  simp only [may, decide_eq_true_eq, Bool.and_eq_true, reg, May]
  by_cases h1 : k = 1
  · subst h1; cases u <;> simp [named, isOp, isNum, nb, carry] <;> omega
  by_cases h2 : k = 2
  · subst h2; cases u <;> simp [named, isOp, isNum, nb, carry, fits17] <;> omega
  by_cases h3 : k = 3
  · subst h3; cases u <;> simp [named, isOp, isNum, nb, carry] <;> omega
  by_cases h4 : k = 4
  · subst h4; cases u <;> simp [named, isOp, isNum, nb, carry] <;> omega
  by_cases h5 : k = 5
  · subst h5; cases u <;> simp [named, isOp, isNum, nb, carry, fits20] <;> omega
  by_cases h6 : k = 6
  · subst h6; cases u <;> simp [named, isOp, isNum, nb, carry] <;> omega
  by_cases h7 : k = 7
  · subst h7; cases u <;> simp [named, isOp, isNum, nb, carry, fits24] <;> omega
  · simp [isOp, h1, h2, h3, h4, h5, h6, h7]
/-- P3.2, row by row -/
def word (x : Ins) : Int :=
  if x.k = 1 then bit x.u * 536870912 + x.a * 16777216 + x.b * 1048576 + x.op * 65536 + x.c
  else if x.k = 2 then 1073741824 + bit x.u * 536870912 + bit (decide (x.i < 0)) * 268435456 + x.a * 16777216 + x.b * 1048576 + x.op * 65536 + x.i % 65536
  else if x.k = 3 then 536870912 + x.a * 16777216
  else if x.k = 4 then 805306368 + x.a * 16777216
  else if x.k = 5 then 2147483648 + x.op * 268435456 + x.a * 16777216 + x.b * 1048576 + x.i % 1048576
  else if x.k = 6 then 3221225472 + bit x.u * 268435456 + x.op * 16777216 + x.c
  else 3758096384 + bit x.u * 268435456 + x.op * 16777216 + x.i % 16777216
def sx (n x : Int) : Int := if x < n then x else x - 2 * n
/-- what a word says, whether it may be or not -/
def guess (w : Int) : Ins :=
  if w / 1073741824 = 0 then
    if w / 536870912 % 2 = 1 ∧ w / 65536 % 16 = 0 then
      if w / 268435456 % 2 = 1 then ⟨4, 0, w / 16777216 % 16, 0, 0, 0, false⟩ else ⟨3, 0, w / 16777216 % 16, 0, 0, 0, false⟩
    else ⟨1, w / 65536 % 16, w / 16777216 % 16, w / 1048576 % 16, w % 16, 0, decide (w / 536870912 % 2 = 1)⟩
  else if w / 1073741824 = 1 then ⟨2, w / 65536 % 16, w / 16777216 % 16, w / 1048576 % 16, 0, if w / 268435456 % 2 = 1 then w % 65536 - 65536 else w % 65536, decide (w / 536870912 % 2 = 1)⟩
  else if w / 1073741824 = 2 then ⟨5, w / 268435456 % 4, w / 16777216 % 16, w / 1048576 % 16, 0, sx 524288 (w % 1048576), false⟩
  else if w / 536870912 % 2 = 1 then ⟨7, w / 16777216 % 16, 0, 0, 0, sx 8388608 (w % 16777216), decide (w / 268435456 % 2 = 1)⟩
  else ⟨6, w / 16777216 % 16, 0, 0, w % 16, 0, decide (w / 268435456 % 2 = 1)⟩
/-- P3.2 -/
noncomputable def enc (x : Ins) : Int := if may x then word x else 0
noncomputable def err (x : Ins) : Int := if may x then 0 else 1
noncomputable def is (w : Int) : Bool := may (guess w) && word (guess w) == w
/-- P3.3 -/
noncomputable def dec (w : Int) : Ins := if is w then guess w else ⟨0, 0, 0, 0, 0, 0, false⟩
theorem word_lo (x : Ins) (h : May x) : 0 ≤ word x := by
  obtain ⟨k, op, a, b, c, i, u⟩ := x
  unfold May at h
  unfold word bit
  simp only at *
  split
  · split <;> omega
  split
  · split <;> split <;> omega
  split
  · omega
  split
  · omega
  split
  · omega
  split
  · split <;> omega
  · split <;> omega
theorem word_hi (x : Ins) (h : May x) : word x < 4294967296 := by
  obtain ⟨k, op, a, b, c, i, u⟩ := x
  unfold May at h
  unfold word bit
  simp only at *
  split
  · split <;> omega
  split
  · split <;> split <;> omega
  split
  · omega
  split
  · omega
  split
  · omega
  split
  · split <;> omega
  · split <;> omega
theorem ins_ext {x y : Ins} (h1 : x.k = y.k) (h2 : x.op = y.op) (h3 : x.a = y.a) (h4 : x.b = y.b) (h5 : x.c = y.c) (h6 : x.i = y.i) (h7 : x.u = y.u) : x = y := by
  cases x; cases y; simp_all
theorem top (T r w : Int) (hw : w = T * 268435456 + r) (r0 : 0 ≤ r) (r1 : r < 268435456) : w / 268435456 = T ∧ w / 1073741824 = T / 4 ∧ w / 536870912 = T / 2 ∧ w % 268435456 = r := by omega
theorem dig24 (T a m w : Int) (hw : w = T * 268435456 + a * 16777216 + m) (a0 : 0 ≤ a) (a1 : a ≤ 15) (m0 : 0 ≤ m) (m1 : m < 16777216) : w / 16777216 % 16 = a ∧ w % 16777216 = m := by omega
theorem dig20 (T a b m w : Int) (hw : w = T * 268435456 + a * 16777216 + b * 1048576 + m) (a0 : 0 ≤ a) (a1 : a ≤ 15) (b0 : 0 ≤ b) (b1 : b ≤ 15) (m0 : 0 ≤ m) (m1 : m < 1048576) : w / 1048576 % 16 = b ∧ w % 1048576 = m := by omega
theorem dig16 (T a b o m w : Int) (hw : w = T * 268435456 + a * 16777216 + b * 1048576 + o * 65536 + m) (a0 : 0 ≤ a) (a1 : a ≤ 15) (b0 : 0 ≤ b) (b1 : b ≤ 15) (o0 : 0 ≤ o) (o1 : o ≤ 15) (m0 : 0 ≤ m) (m1 : m < 65536) : w / 65536 % 16 = o ∧ w % 65536 = m := by omega
theorem bit_lo (u : Bool) : 0 ≤ bit u := by cases u <;> decide
theorem bit_hi (u : Bool) : bit u ≤ 1 := by cases u <;> decide
theorem bit_t : bit true = 1 := rfl
theorem bit_f : bit false = 0 := rfl
theorem bit_one (u : Bool) : decide (bit u = 1) = u := by cases u <;> rfl
theorem guess_word (x : Ins) (h : May x) : guess (word x) = x := by
  obtain ⟨k, op, a, b, c, i, u⟩ := x
  unfold May at h
  simp only at h
  obtain ⟨⟨a0, a1, b0, b1, c0, c1⟩, h⟩ := h
  rcases h with ⟨rfl, h⟩ | ⟨rfl, h⟩ | ⟨rfl | rfl, h⟩ | ⟨rfl, h⟩ | ⟨rfl, h⟩ | ⟨rfl, h⟩
  · obtain ⟨o0, o1, ob, ou, rfl⟩ := h
    have B0 := bit_lo u
    have B1 := bit_hi u
    have hz : bit u = 1 → op ≠ 0 := by intro h; cases u; cases h; have := ou rfl; omega
    have hB := bit_one u
    obtain ⟨B, hb⟩ : ∃ B, bit u = B := ⟨_, rfl⟩
    rw [hb] at B0 B1 hz hB
    have hw : word ⟨1, op, a, b, c, 0, u⟩ = (2 * B) * 268435456 + a * 16777216 + b * 1048576 + op * 65536 + c := by simp [word, hb]; omega
    generalize word ⟨1, op, a, b, c, 0, u⟩ = w at hw
    obtain ⟨t0, t1, t2, t3⟩ := top (2 * B) (a * 16777216 + b * 1048576 + op * 65536 + c) w (by omega) (by omega) (by omega)
    obtain ⟨d1, d1'⟩ := dig24 (2 * B) a (b * 1048576 + op * 65536 + c) w (by omega) (by omega) (by omega) (by omega) (by omega)
    obtain ⟨d2, d2'⟩ := dig20 (2 * B) a b (op * 65536 + c) w (by omega) (by omega) (by omega) (by omega) (by omega) (by omega) (by omega)
    obtain ⟨d3, d3'⟩ := dig16 (2 * B) a b op c w (by omega) (by omega) (by omega) (by omega) (by omega) (by omega) (by omega) (by omega) (by omega)
    unfold guess
    rw [t1, t2, d1, d2, d3, if_pos (by omega), if_neg (by omega)]
    exact ins_ext rfl rfl rfl rfl (by simp only; omega) rfl (by rw [← hB]; simp only; congr 1; rw [eq_iff_iff]; omega)
  · obtain ⟨o0, o1, ob, ou, rfl, i0, i1, hu⟩ := h
    have B0 := bit_lo u
    have B1 := bit_hi u
    have hB := bit_one u
    obtain ⟨B, hb⟩ : ∃ B, bit u = B := ⟨_, rfl⟩
    rw [hb] at B0 B1 hB
    have S0 := bit_lo (decide (i < 0))
    have S1 := bit_hi (decide (i < 0))
    have hS := bit_one (decide (i < 0))
    obtain ⟨S, hs⟩ : ∃ B, bit (decide (i < 0)) = B := ⟨_, rfl⟩
    rw [hs] at S0 S1 hS
    have hS' : S = 1 ↔ i < 0 := by simpa using hS
    have hw : word ⟨2, op, a, b, 0, i, u⟩ = (4 + 2 * B + S) * 268435456 + a * 16777216 + b * 1048576 + op * 65536 + i % 65536 := by simp [word, hb, hs]; omega
    generalize word ⟨2, op, a, b, 0, i, u⟩ = w at hw
    obtain ⟨t0, t1, t2, t3⟩ := top (4 + 2 * B + S) (a * 16777216 + b * 1048576 + op * 65536 + i % 65536) w (by omega) (by omega) (by omega)
    obtain ⟨d1, d1'⟩ := dig24 (4 + 2 * B + S) a (b * 1048576 + op * 65536 + i % 65536) w (by omega) (by omega) (by omega) (by omega) (by omega)
    obtain ⟨d2, d2'⟩ := dig20 (4 + 2 * B + S) a b (op * 65536 + i % 65536) w (by omega) (by omega) (by omega) (by omega) (by omega) (by omega) (by omega)
    obtain ⟨d3, d3'⟩ := dig16 (4 + 2 * B + S) a b op (i % 65536) w (by omega) (by omega) (by omega) (by omega) (by omega) (by omega) (by omega) (by omega) (by omega)
    unfold guess
    rw [t0, t1, t2, d1, d2, d3, d3', if_neg (by omega), if_pos (by omega)]
    refine ins_ext rfl rfl rfl rfl rfl ?_ (by rw [← hB]; simp only; congr 1; rw [eq_iff_iff]; omega)
    simp only
    split <;> omega
  · obtain ⟨rfl, rfl, rfl, rfl, rfl⟩ := h
    have hw : word ⟨3, 0, a, 0, 0, 0, false⟩ = 2 * 268435456 + a * 16777216 + 0 * 1048576 + 0 * 65536 + 0 := by simp [word]
    generalize word ⟨3, 0, a, 0, 0, 0, false⟩ = w at hw
    unfold guess
    rw [if_pos (by omega), if_pos (by omega), if_neg (by omega)]
    exact ins_ext rfl rfl (by simp only; omega) rfl rfl rfl rfl
  · obtain ⟨rfl, rfl, rfl, rfl, rfl⟩ := h
    have hw : word ⟨4, 0, a, 0, 0, 0, false⟩ = 3 * 268435456 + a * 16777216 + 0 * 1048576 + 0 * 65536 + 0 := by simp [word]
    generalize word ⟨4, 0, a, 0, 0, 0, false⟩ = w at hw
    unfold guess
    rw [if_pos (by omega), if_pos (by omega), if_pos (by omega)]
    exact ins_ext rfl rfl (by simp only; omega) rfl rfl rfl rfl
  · obtain ⟨o0, o1, rfl, i0, i1, rfl⟩ := h
    have hw : word ⟨5, op, a, b, 0, i, false⟩ = (8 + op) * 268435456 + a * 16777216 + b * 1048576 + i % 1048576 := by simp [word]; omega
    generalize word ⟨5, op, a, b, 0, i, false⟩ = w at hw
    obtain ⟨t0, t1, t2, t3⟩ := top (8 + op) (a * 16777216 + b * 1048576 + i % 1048576) w (by omega) (by omega) (by omega)
    obtain ⟨d1, d1'⟩ := dig24 (8 + op) a (b * 1048576 + i % 1048576) w (by omega) (by omega) (by omega) (by omega) (by omega)
    obtain ⟨d2, d2'⟩ := dig20 (8 + op) a b (i % 1048576) w (by omega) (by omega) (by omega) (by omega) (by omega) (by omega) (by omega)
    unfold guess
    rw [t0, t1, t2, d1, d2, d2', if_neg (by omega), if_neg (by omega), if_pos (by omega)]
    refine ins_ext rfl (by simp only; omega) rfl rfl rfl ?_ rfl
    simp only [sx]
    split <;> omega
  · obtain ⟨o0, o1, rfl, rfl, rfl⟩ := h
    have B0 := bit_lo u
    have B1 := bit_hi u
    have hB := bit_one u
    obtain ⟨B, hb⟩ : ∃ B, bit u = B := ⟨_, rfl⟩
    rw [hb] at B0 B1 hB
    have hw : word ⟨6, op, 0, 0, c, 0, u⟩ = (12 + B) * 268435456 + op * 16777216 + c := by simp [word, hb]; omega
    generalize word ⟨6, op, 0, 0, c, 0, u⟩ = w at hw
    obtain ⟨t0, t1, t2, t3⟩ := top (12 + B) (op * 16777216 + c) w (by omega) (by omega) (by omega)
    obtain ⟨d1, d1'⟩ := dig24 (12 + B) op c w (by omega) (by omega) (by omega) (by omega) (by omega)
    unfold guess
    rw [t0, t1, t2, d1, if_neg (by omega), if_neg (by omega), if_neg (by omega), if_neg (by omega)]
    exact ins_ext rfl rfl rfl rfl (by simp only; omega) rfl (by rw [← hB]; simp only; congr 1; rw [eq_iff_iff]; omega)
  · obtain ⟨o0, o1, rfl, rfl, rfl, i0, i1⟩ := h
    have B0 := bit_lo u
    have B1 := bit_hi u
    have hB := bit_one u
    obtain ⟨B, hb⟩ : ∃ B, bit u = B := ⟨_, rfl⟩
    rw [hb] at B0 B1 hB
    have hw : word ⟨7, op, 0, 0, 0, i, u⟩ = (14 + B) * 268435456 + op * 16777216 + i % 16777216 := by simp [word, hb]; omega
    generalize word ⟨7, op, 0, 0, 0, i, u⟩ = w at hw
    obtain ⟨t0, t1, t2, t3⟩ := top (14 + B) (op * 16777216 + i % 16777216) w (by omega) (by omega) (by omega)
    obtain ⟨d1, d1'⟩ := dig24 (14 + B) op (i % 16777216) w (by omega) (by omega) (by omega) (by omega) (by omega)
    unfold guess
    rw [t0, t1, t2, d1, d1', if_neg (by omega), if_neg (by omega), if_neg (by omega), if_pos (by omega)]
    refine ins_ext rfl rfl rfl rfl rfl ?_ (by rw [← hB]; simp only; congr 1; rw [eq_iff_iff]; omega)
    simp only [sx]
    split <;> omega
theorem is_word (x : Ins) (h : May x) : is (word x) = true := by
  unfold is; rw [guess_word x h]; simp [may, h]
theorem dec_word (x : Ins) (h : May x) : dec (word x) = x := by
  unfold dec; rw [is_word x h, guess_word x h]; rfl
end I
end Go.Proofs.Ytlmddkciamdldaa

/-
  Registers and flags as plain data, and their cells. No Go text is named here.
-/
namespace Go.Proofs.Ytlmddkciamdldaa
set_option linter.unusedVariables false
set_option linter.unusedSimpArgs false
set_option maxRecDepth 100000
namespace A
/-- the registers, H, N, Z, C, V -/
structure Regs where
  r : Nat → Int
  h : Int
  n : Bool
  z : Bool
  c : Bool
  v : Bool
/-- their cells -/
def cells (s : Regs) : Array Value := #[.int .u32 (s.r 0), .int .u32 (s.r 1), .int .u32 (s.r 2), .int .u32 (s.r 3), .int .u32 (s.r 4), .int .u32 (s.r 5), .int .u32 (s.r 6), .int .u32 (s.r 7), .int .u32 (s.r 8), .int .u32 (s.r 9), .int .u32 (s.r 10), .int .u32 (s.r 11), .int .u32 (s.r 12), .int .u32 (s.r 13), .int .u32 (s.r 14), .int .u32 (s.r 15), .int .u32 s.h, .bool s.n, .bool s.z, .bool s.c, .bool s.v]
/-- each register is a word -/
def Ok (s : Regs) : Prop := (∀ j, j < 16 → 0 ≤ s.r j ∧ s.r j < 4294967296) ∧ 0 ≤ s.h ∧ s.h < 4294967296
def set (s : Regs) (j : Nat) (x : Int) : Regs := { s with r := fun k => if k = j then x else s.r k }
def setH (s : Regs) (x : Int) : Regs := { s with h := x }
def setN (s : Regs) (x : Bool) : Regs := { s with n := x }
def setZ (s : Regs) (x : Bool) : Regs := { s with z := x }
def setC (s : Regs) (x : Bool) : Regs := { s with c := x }
def setV (s : Regs) (x : Bool) : Regs := { s with v := x }
theorem lt16 {P : Nat → Prop} (h : P 0 ∧ P 1 ∧ P 2 ∧ P 3 ∧ P 4 ∧ P 5 ∧ P 6 ∧ P 7 ∧ P 8 ∧ P 9 ∧ P 10 ∧ P 11 ∧ P 12 ∧ P 13 ∧ P 14 ∧ P 15) (j : Nat) (hj : j < 16) : P j := by
  obtain ⟨h0, h1, h2, h3, h4, h5, h6, h7, h8, h9, h10, h11, h12, h13, h14, h15⟩ := h
  have : j = 0 ∨ j = 1 ∨ j = 2 ∨ j = 3 ∨ j = 4 ∨ j = 5 ∨ j = 6 ∨ j = 7 ∨ j = 8 ∨ j = 9 ∨ j = 10 ∨ j = 11 ∨ j = 12 ∨ j = 13 ∨ j = 14 ∨ j = 15 := by omega
  rcases this with rfl | rfl | rfl | rfl | rfl | rfl | rfl | rfl | rfl | rfl | rfl | rfl | rfl | rfl | rfl | rfl <;> assumption
@[simp] theorem size_cells (s : Regs) : (cells s).size = 21 := rfl
theorem cell_r (s : Regs) (j : Nat) (hj : j < 16) : (cells s)[j]? = some (.int .u32 (s.r j)) :=
  lt16 (P := fun j => (cells s)[j]? = some (.int .u32 (s.r j))) ⟨rfl, rfl, rfl, rfl, rfl, rfl, rfl, rfl, rfl, rfl, rfl, rfl, rfl, rfl, rfl, rfl⟩ j hj
@[simp] theorem cell_h (s : Regs) : (cells s)[16]? = some (.int .u32 s.h) := rfl
@[simp] theorem cell_n (s : Regs) : (cells s)[17]? = some (.bool s.n) := rfl
@[simp] theorem cell_z (s : Regs) : (cells s)[18]? = some (.bool s.z) := rfl
@[simp] theorem cell_c (s : Regs) : (cells s)[19]? = some (.bool s.c) := rfl
@[simp] theorem cell_v (s : Regs) : (cells s)[20]? = some (.bool s.v) := rfl
theorem set_r (s : Regs) (j : Nat) (hj : j < 16) (x : Int) : (cells s).setIfInBounds j (.int .u32 x) = cells (set s j x) :=
  lt16 (P := fun j => (cells s).setIfInBounds j (.int .u32 x) = cells (set s j x)) ⟨rfl, rfl, rfl, rfl, rfl, rfl, rfl, rfl, rfl, rfl, rfl, rfl, rfl, rfl, rfl, rfl⟩ j hj
@[simp] theorem set_h (s : Regs) (x : Int) : (cells s).setIfInBounds 16 (.int .u32 x) = cells (setH s x) := rfl
@[simp] theorem set_n (s : Regs) (x : Bool) : (cells s).setIfInBounds 17 (.bool x) = cells (setN s x) := rfl
@[simp] theorem set_z (s : Regs) (x : Bool) : (cells s).setIfInBounds 18 (.bool x) = cells (setZ s x) := rfl
@[simp] theorem set_c (s : Regs) (x : Bool) : (cells s).setIfInBounds 19 (.bool x) = cells (setC s x) := rfl
@[simp] theorem set_v (s : Regs) (x : Bool) : (cells s).setIfInBounds 20 (.bool x) = cells (setV s x) := rfl
@[simp] theorem one_cells (s : Regs) : (cells s).all (·.oneCell') = true := by simp [cells, Value.oneCell']
/-- nothing in any register -/
def none' : Regs := ⟨fun _ => 0, 0, false, false, false, false⟩
/-- what an operation works on: the registers, b, n, U -/
def opnd (s : Regs) (b n : Int) (u : Bool) : Array Value := #[.int .u32 (s.r 0), .int .u32 (s.r 1), .int .u32 (s.r 2), .int .u32 (s.r 3), .int .u32 (s.r 4), .int .u32 (s.r 5), .int .u32 (s.r 6), .int .u32 (s.r 7), .int .u32 (s.r 8), .int .u32 (s.r 9), .int .u32 (s.r 10), .int .u32 (s.r 11), .int .u32 (s.r 12), .int .u32 (s.r 13), .int .u32 (s.r 14), .int .u32 (s.r 15), .int .u32 s.h, .bool s.n, .bool s.z, .bool s.c, .bool s.v, .int .u32 b, .int .u32 n, .bool u]
@[simp] theorem size_opnd (s : Regs) (b n : Int) (u : Bool) : (opnd s b n u).size = 24 := rfl
@[simp] theorem opnd_h (s : Regs) (b n : Int) (u : Bool) : (opnd s b n u)[16]? = some (.int .u32 s.h) := rfl
@[simp] theorem opnd_n (s : Regs) (b n : Int) (u : Bool) : (opnd s b n u)[17]? = some (.bool s.n) := rfl
@[simp] theorem opnd_z (s : Regs) (b n : Int) (u : Bool) : (opnd s b n u)[18]? = some (.bool s.z) := rfl
@[simp] theorem opnd_c (s : Regs) (b n : Int) (u : Bool) : (opnd s b n u)[19]? = some (.bool s.c) := rfl
@[simp] theorem opnd_v (s : Regs) (b n : Int) (u : Bool) : (opnd s b n u)[20]? = some (.bool s.v) := rfl
@[simp] theorem opnd_b (s : Regs) (b n : Int) (u : Bool) : (opnd s b n u)[21]? = some (.int .u32 b) := rfl
@[simp] theorem opnd_nn (s : Regs) (b n : Int) (u : Bool) : (opnd s b n u)[22]? = some (.int .u32 n) := rfl
@[simp] theorem opnd_u (s : Regs) (b n : Int) (u : Bool) : (opnd s b n u)[23]? = some (.bool u) := rfl
@[simp] theorem opnd_set_h (s : Regs) (b n : Int) (u : Bool) (x : Int) : (opnd s b n u).setIfInBounds 16 (.int .u32 x) = opnd (setH s x) b n u := rfl
@[simp] theorem opnd_set_c (s : Regs) (b n : Int) (u : Bool) (x : Bool) : (opnd s b n u).setIfInBounds 19 (.bool x) = opnd (setC s x) b n u := rfl
@[simp] theorem opnd_set_v (s : Regs) (b n : Int) (u : Bool) (x : Bool) : (opnd s b n u).setIfInBounds 20 (.bool x) = opnd (setV s x) b n u := rfl
theorem opnd_regs (s : Regs) (b n : Int) (u : Bool) : ((opnd s b n u).extract 0 (0 + (cells s).size)) = cells s := by simp [opnd, cells]
@[simp] theorem one_opnd (s : Regs) (b n : Int) (u : Bool) : (opnd s b n u).all (·.oneCell') = true := by simp [opnd, Value.oneCell']
/-- what comes of an operation: the word, the registers, the trap -/
def outc (x : Int) (s : Regs) (t : Int) : Array Value := #[.int .u32 x, .int .u32 (s.r 0), .int .u32 (s.r 1), .int .u32 (s.r 2), .int .u32 (s.r 3), .int .u32 (s.r 4), .int .u32 (s.r 5), .int .u32 (s.r 6), .int .u32 (s.r 7), .int .u32 (s.r 8), .int .u32 (s.r 9), .int .u32 (s.r 10), .int .u32 (s.r 11), .int .u32 (s.r 12), .int .u32 (s.r 13), .int .u32 (s.r 14), .int .u32 (s.r 15), .int .u32 s.h, .bool s.n, .bool s.z, .bool s.c, .bool s.v, .int .i64 t]
@[simp] theorem size_outc (x : Int) (s : Regs) (t : Int) : (outc x s t).size = 23 := rfl
@[simp] theorem outc_x (x : Int) (s : Regs) (t : Int) : (outc x s t)[0]? = some (.int .u32 x) := rfl
@[simp] theorem outc_t (x : Int) (s : Regs) (t : Int) : (outc x s t)[22]? = some (.int .i64 t) := rfl
theorem outc_regs (x : Int) (s : Regs) (t : Int) : ((outc x s t).extract 1 (1 + (cells s).size)) = cells s := by simp [outc, cells]
@[simp] theorem one_outc (x : Int) (s : Regs) (t : Int) : (outc x s t).all (·.oneCell') = true := by simp [outc, Value.oneCell']
/-- P4.1 -/
def show' (s : Regs) (x : Int) : Regs := setZ (setN s (decide (2147483648 ≤ x))) (x == 0)
end A
end Go.Proofs.Ytlmddkciamdldaa

/-
  Machines as plain states: what may turn (Turn), the block of a machine (Mac), what stores do to it, appends to the outputs. No Go function is named here.
-/
namespace Go.Proofs.Ytlmddkciamdldaa
open Go.RowKit
set_option linter.unusedVariables false
set_option linter.unusedSimpArgs false
set_option maxRecDepth 100000
/-- only blocks of F may have turned -/
structure Turn (F : Nat → Prop) (w w' : World) : Prop where
  os : w'.os = w.os
  tape : w'.tape = w.tape
  output : w'.output = w.output
  size : w.heap.size ≤ w'.heap.size
  block : ∀ k, k < w.heap.size → ¬ F k → w'.heap[k]? = w.heap[k]?
theorem Turn.refl (F : Nat → Prop) (w : World) : Turn F w w := ⟨rfl, rfl, rfl, Nat.le_refl _, fun _ _ _ => rfl⟩
theorem Turn.mono {F G : Nat → Prop} {w w' : World} (h : Turn F w w') (hm : ∀ k, k < w.heap.size → F k → G k) : Turn G w w' :=
  ⟨h.os, h.tape, h.output, h.size, fun k hk hG => h.block k hk fun hF => hG (hm k hk hF)⟩
theorem Turn.trans {F : Nat → Prop} {a b c : World} (h : Turn F a b) (k : Turn F b c) : Turn F a c :=
  ⟨k.os.trans h.os, k.tape.trans h.tape, k.output.trans h.output, Nat.le_trans h.size k.size, fun i hi hF => (k.block i (Nat.lt_of_lt_of_le hi h.size) hF).trans (h.block i hi hF)⟩
/-- a second step, by a set that has grown by new blocks alone -/
theorem Turn.then {F G : Nat → Prop} {a b c : World} (h : Turn F a b) (k : Turn G b c) (hG : ∀ i, G i → F i ∨ a.heap.size ≤ i) : Turn F a c :=
  ⟨k.os.trans h.os, k.tape.trans h.tape, k.output.trans h.output, Nat.le_trans h.size k.size, fun i hi hF => (k.block i (Nat.lt_of_lt_of_le hi h.size) fun hg => by
    rcases hG i hg with h1 | h1
    · exact hF h1
    · omega).trans (h.block i hi hF)⟩
theorem Kept.turn {w w' : World} (h : Kept w w') (F : Nat → Prop) : Turn F w w' := ⟨h.below.os, h.below.tape, h.below.output, h.below.size, fun k hk _ => h.below.block k hk⟩
theorem But.turn {B : Nat} {w w' : World} (h : But B w w') {F : Nat → Prop} (hB : F B) : Turn F w w' :=
  ⟨h.os, h.tape, h.output, h.size, fun k hk hF => h.block k hk fun e => hF (e ▸ hB)⟩
theorem grown_turn {w w' : World} {row : Option Nat} (h : w.grownBy w' row) {F : Nat → Prop} (hF : ∀ k, row = some k → F k) : Turn F w w' :=
  ⟨h.os, h.tape, h.output, h.size, fun k hk hn => h.block k hk fun e => hn (hF k e.symm)⟩
theorem Turn.below {F : Nat → Prop} {w w' : World} (h : Turn F w w') (N : Nat) (hN : N ≤ w.heap.size) (hF : ∀ k, F k → N ≤ k) : Below N w w' :=
  ⟨h.os, h.tape, h.output, h.size, fun k hk => h.block k (by omega) fun hk' => by have := hF k hk'; omega⟩
theorem Turn.kept0 {w w' : World} (h : Turn (fun _ => False) w w') : Below w.heap.size w w' := h.below _ (Nat.le_refl _) fun _ h => h.elim
theorem Turn.drew {F : Nat → Prop} {a b : World} (h : Turn F a b) : Turn F a b.drew := ⟨h.os, h.tape, h.output, h.size, h.block⟩
/-- stores into the cells behind a memory -/
theorem MemT.tail {t : TypeId} {tl : List Value} {B : Nat} {ws : List Int} {w : World} (h : MemT t tl B ws w) (j : Nat) (v : Value) (hv : tl[j]? = some v) : w.cell? ⟨B, 4097 + j, none⟩ = some v := by
  obtain ⟨cs, h1, _, _, _, h5⟩ := h.has; exact h1.cell _ _ ((h5 j).trans hv)
theorem MemT.set1 {t : TypeId} {tl : List Value} {B : Nat} {ws : List Int} {w : World} (h : MemT t tl B ws w) (j : Nat) (v : Value) : MemT t (tl.set j v) B ws (w.setCell ⟨B, 4097 + j, none⟩ v) := by
  obtain ⟨cs, hh, h2, h3, h4, h5⟩ := h.has
  have hl := h.len
  refine ⟨hl, h.rng, cs.setIfInBounds (4097 + j) v, hh.set _ _, by simpa using h2, ?_, fun k y hk => ?_, fun k => ?_⟩
  · rw [Array.getElem?_setIfInBounds_ne (by omega), h3]
  · have hk' : k < ws.length := by
      rcases Nat.lt_or_ge k ws.length with h1 | h1
      · exact h1
      · rw [List.getElem?_eq_none h1] at hk; cases hk
    rw [Array.getElem?_setIfInBounds_ne (by omega)]
    exact h4 k y hk
  · rw [List.getElem?_set]
    by_cases e : j = k
    · subst e
      rw [if_pos rfl]
      by_cases c : j < tl.length
      · rw [if_pos c, Array.getElem?_setIfInBounds_self_of_lt (by omega)]
      · rw [if_neg c, Array.getElem?_eq_none (by simp; omega)]
    · rw [if_neg e, Array.getElem?_setIfInBounds_ne (by omega)]
      exact h5 k
def X.put (tl : List Value) (j : Nat) : List Value → List Value
  | [] => tl
  | v :: r => X.put (tl.set j v) (j + 1) r
theorem MemT.setN {t : TypeId} {B : Nat} {ws : List Int} : ∀ (vs : List Value) (j : Nat) (tl : List Value) (w : World), MemT t tl B ws w → MemT t (X.put tl j vs) B ws (w.setCells B (4097 + j) vs)
  | [], _, _, _, h => h
  | v :: r, j, tl, w, h => by
    have := MemT.setN r (j + 1) (tl.set j v) (w.setCell ⟨B, 4097 + j, none⟩ v) (h.set1 j v)
    exact this
theorem but_setCells {B : Nat} : ∀ (vs : List Value) (o : Nat) (a w : World), But B a w → But B a (w.setCells B o vs)
  | [], _, _, _, h => h
  | v :: r, o, a, w, h => but_setCells r (o + 1) a _ (h.setCell o v)
theorem MemT.there {t : TypeId} {tl : List Value} {B : Nat} {ws : List Int} {w : World} (h : MemT t tl B ws w) (o n : Nat) (hn : o + n ≤ 4097 + tl.length) : w.there B o n := by
  obtain ⟨cs, hh, h2, _⟩ := h.has
  intro j hj
  have hj' : o + j < cs.size := by omega
  refine ⟨?_, hh.free _⟩
  rw [hh.cell (o + j) cs[o + j] (Array.getElem?_eq_getElem hj')]
  rfl
theorem MemT.at {t : TypeId} {tl : List Value} {B : Nat} {ws : List Int} {w : World} (h : MemT t tl B ws w) (j : Nat) (vs : List Value) (hv : ∀ k v, vs[k]? = some v → tl[j + k]? = some v) : w.rangeAt B (4097 + j) vs := by
  intro k v hk
  have := h.tail (j + k) v (hv k v hk)
  rwa [← Nat.add_assoc] at this
namespace X
/-- a machine: its words, registers, where it stands, how, its inputs and outputs -/
structure St where
  ws : List Int
  s : A.Regs
  pc : Int
  st : Int
  ins : List Int
  outs : List Int
/-- the cells behind the memory -/
def tl (si so : Value) (s : A.Regs) (pc st : Int) : List Value := [si, so, .int .u32 (s.r 0), .int .u32 (s.r 1), .int .u32 (s.r 2), .int .u32 (s.r 3), .int .u32 (s.r 4), .int .u32 (s.r 5), .int .u32 (s.r 6), .int .u32 (s.r 7), .int .u32 (s.r 8), .int .u32 (s.r 9), .int .u32 (s.r 10), .int .u32 (s.r 11), .int .u32 (s.r 12), .int .u32 (s.r 13), .int .u32 (s.r 14), .int .u32 (s.r 15), .int .u32 s.h, .bool s.n, .bool s.z, .bool s.c, .bool s.v, .int .u32 pc, .int .i64 st]
theorem tl_regs (si so : Value) (s s' : A.Regs) (pc st : Int) : X.put (tl si so s pc st) 2 (A.cells s').toList = tl si so s' pc st := by kernel_rfl
theorem tl_pc (si so : Value) (s : A.Regs) (pc st v : Int) : (tl si so s pc st).set 23 (.int .u32 v) = tl si so s v st := rfl
theorem tl_st (si so : Value) (s : A.Regs) (pc st v : Int) : (tl si so s pc st).set 24 (.int .i64 v) = tl si so s pc v := rfl
theorem tl_in (si so v : Value) (s : A.Regs) (pc st : Int) : (tl si so s pc st).set 0 v = tl v so s pc st := rfl
theorem tl_out (si so v : Value) (s : A.Regs) (pc st : Int) : (tl si so s pc st).set 1 v = tl si v s pc st := rfl
theorem tl_len (si so : Value) (s : A.Regs) (pc st : Int) : (tl si so s pc st).length = 25 := rfl
theorem tl_at (si so : Value) (s : A.Regs) (pc st : Int) (k : Nat) (v : Value) (h : (A.cells s).toList[k]? = some v) : (tl si so s pc st)[2 + k]? = some v := by
  have hk : k < 21 := by
    rcases Nat.lt_or_ge k 21 with h1 | h1
    · exact h1
    · rw [List.getElem?_eq_none (by simp; omega)] at h; cases h
  have e : (tl si so s pc st) = [si, so] ++ ((A.cells s).toList ++ [.int .u32 pc, .int .i64 st]) := rfl
  rw [e, List.getElem?_append_right (by simp), show 2 + k - ([si, so] : List Value).length = k by simp, List.getElem?_append_left (by simp; omega)]
  exact h
/-- the outputs: none, or a row of the machine's own -/
def Outs (A : Option Addr) (n c : Nat) (xs : List Int) (w : World) : Prop := w.ownsRow 0 24 1 (.slice A n c) n (xs.map (Value.int .u32))
end X
/-- the block B is the machine x; all that it may turn lies in F -/
structure MacAt (F : Nat → Prop) (B : Nat) (x : X.St) (ai : Option Addr) (ni ci : Nat) (ao : Option Addr) (no co : Nat) (w : World) : Prop where
  sub : ∀ k, F k → k < w.heap.size
  inB : F B
  mem : MemT 70 (X.tl (.slice ai ni ci) (.slice ao no co) x.s x.pc x.st) B x.ws w
  ins : Ws w ai ni ci x.ins
  insF : ∀ ad, ai = some ad → 0 < ni → F ad.block ∧ ad.block ≠ B ∧ ∀ bd, ao = some bd → ad.block ≠ bd.block
  out : X.Outs ao no co x.outs w
  outF : ∀ ad, ao = some ad → F ad.block ∧ ad.block ≠ B
  ok : A.Ok x.s
  pc0 : 0 ≤ x.pc
  pc1 : x.pc < 4294967296
  rng : ∀ y ∈ x.outs, 0 ≤ y ∧ y < 4294967296
def Mac (F : Nat → Prop) (B : Nat) (x : X.St) (w : World) : Prop := ∃ ai ni ci ao no co, MacAt F B x ai ni ci ao no co w
theorem X.Outs.len {A : Option Addr} {n c : Nat} {xs : List Int} {w : World} (h : X.Outs A n c xs w) : xs.length = n := by have := h.1; simpa using this
theorem X.Outs.to {A : Option Addr} {n c : Nat} {xs : List Int} {w w' : World} (h : X.Outs A n c xs w) (hb : ∀ ad, A = some ad → w'.heap[ad.block]? = w.heap[ad.block]?) : X.Outs A n c xs w' := by
  obtain ⟨h1, h2⟩ := h
  refine ⟨h1, ?_⟩
  rcases h2 with h2 | ⟨g, cap, cur, hv, hr⟩
  · exact Or.inl h2
  · obtain ⟨q1, q2, q3⟩ := hr
    cases hv
    exact Or.inr ⟨g, _, cur, rfl, q1, (hb _ rfl).trans q2, q3⟩
theorem X.Outs.ws {A : Option Addr} {n c : Nat} {xs : List Int} {w : World} (h : X.Outs A n c xs w) (hr : ∀ x ∈ xs, 0 ≤ x ∧ x < 4294967296) : Ws w A n c xs := by
  have hl := h.len
  rcases h.2 with ⟨h2, h3⟩ | ⟨g, cap, cur, hv, _⟩
  · cases h2
    have : xs = [] := List.eq_nil_of_length_eq_zero hl
    subst this
    exact Ws.empty w
  · cases hv
    exact Own.ws (base := 0) h hr
theorem MemT.to {t : TypeId} {tl : List Value} {B : Nat} {ws : List Int} {w w' : World} (h : MemT t tl B ws w) (hb : w'.heap[B]? = w.heap[B]?) : MemT t tl B ws w' := by
  obtain ⟨cs, h1, h2⟩ := h.has; exact ⟨h.len, h.rng, cs, hb.trans h1, h2⟩
/-- another's step leaves a machine -/
theorem MacAt.turn {F G : Nat → Prop} {B : Nat} {x : X.St} {ai : Option Addr} {ni ci : Nat} {ao : Option Addr} {no co : Nat} {w w' : World} (h : MacAt F B x ai ni ci ao no co w) (hT : Turn G w w') (hd : ∀ k, F k → ¬ G k) : MacAt F B x ai ni ci ao no co w' :=
  ⟨fun k hk => Nat.lt_of_lt_of_le (h.sub k hk) hT.size, h.inB, h.mem.to (hT.block B (h.sub B h.inB) (hd B h.inB)), h.ins.to fun ad e hn => hT.block _ (h.sub _ (h.insF ad e hn).1) (hd _ (h.insF ad e hn).1), h.insF,
    h.out.to fun ad e => hT.block _ (h.sub _ (h.outF ad e).1) (hd _ (h.outF ad e).1), h.outF, h.ok, h.pc0, h.pc1, h.rng⟩
theorem Mac.turn {F G : Nat → Prop} {B : Nat} {x : X.St} {w w' : World} (h : Mac F B x w) (hT : Turn G w w') (hd : ∀ k, F k → ¬ G k) : Mac F B x w' := by
  obtain ⟨ai, ni, ci, ao, no, co, h⟩ := h
  exact ⟨ai, ni, ci, ao, no, co, h.turn hT hd⟩
theorem Mac.kept {F : Nat → Prop} {B : Nat} {x : X.St} {w w' : World} (h : Mac F B x w) (hT : Kept w w') : Mac F B x w' := h.turn (hT.turn fun _ => False) fun _ _ h => h
theorem Mac.sub {F : Nat → Prop} {B : Nat} {x : X.St} {w : World} (h : Mac F B x w) : ∀ k, F k → k < w.heap.size := by obtain ⟨_, _, _, _, _, _, h⟩ := h; exact h.sub
theorem Mac.inB {F : Nat → Prop} {B : Nat} {x : X.St} {w : World} (h : Mac F B x w) : F B := by obtain ⟨_, _, _, _, _, _, h⟩ := h; exact h.inB
/-- the machine's own words and cells turned, its inputs and outputs did not -/
theorem MacAt.own {F : Nat → Prop} {B : Nat} {x : X.St} {ai : Option Addr} {ni ci : Nat} {ao : Option Addr} {no co : Nat} {w w' : World} (h : MacAt F B x ai ni ci ao no co w) (hB : But B w w') (ws : List Int) (s : A.Regs) (pc st : Int)
    (hm : MemT 70 (X.tl (.slice ai ni ci) (.slice ao no co) s pc st) B ws w') (ok : A.Ok s) (pc0 : 0 ≤ pc) (pc1 : pc < 4294967296) : MacAt F B ⟨ws, s, pc, st, x.ins, x.outs⟩ ai ni ci ao no co w' :=
  ⟨fun k hk => Nat.lt_of_lt_of_le (h.sub k hk) hB.size, h.inB, hm, h.ins.but hB fun ad e hn => (h.insF ad e hn).2.1, h.insF,
    h.out.to fun ad e => hB.block _ (h.sub _ (h.outF ad e).1) (h.outF ad e).2, h.outF, ok, pc0, pc1, h.rng⟩
/-- append of words to outputs -/
theorem append_out {w : World} {ops : Array Oper} {rest : List Oper} {o : Oper} {a : Act} {Q : Exit → Act → World → Prop} (hgd : o.guard = none) (s x : Operand)
    (ho : o.op = .call { callee := .builtin .append, args := #[s, x], argTypes := #[28, 28] }) (A : Option Addr) (n cap : Nat) (xs : List Int) (hs : a.eval s = .slice A n cap) (hown : X.Outs A n cap xs w)
    (ad : Addr) (m c : Nat) (ys : List Int) (hx : a.eval x = .slice (some ad) m c) (hY : Ws w (some ad) m c ys) (hm : 0 < m) (hb : n + m ≤ 1000000000000)
    (h : ∀ A' cap' w', X.Outs A' (n + m) cap' (xs ++ ys) w' → w.grownBy w' (Value.ownBlock (.slice A n cap)) → (∀ bd, A' = some bd → A = some bd ∨ w.heap.size ≤ bd.block) → wpList Try.prog ops Q rest (a.put o.dst (.slice A' (n + m) cap')) w') : wpList Try.prog ops Q (o :: rest) a w := by
  obtain ⟨i0, hi, hz0, hz1, hz2⟩ := info_parts M.info32
  have hl : (ys.map (Value.int .u32)).length = m * 1 := by rw [List.length_map, hY.len, Nat.mul_one]
  have hnews : ∀ j u, (ys.map (Value.int .u32))[j]? = some u → w.cell? (ad.add j) = some u := by
    intro j u hj
    rw [List.getElem?_map, Option.map_eq_some_iff] at hj
    obtain ⟨y, hy, rfl⟩ := hj
    exact hY.cel ad rfl j y hy
  have h1 : ∀ u ∈ ys.map (Value.int .u32), u.oneCell' = true := by
    intro u hu
    obtain ⟨y, _, rfl⟩ := List.mem_map.1 hu
    rfl
  rcases hown.2 with ⟨h2, h3⟩ | ⟨g, cap', cur, hv, _, hg, hle, hcm, hcs, ht⟩
  · cases h2
    have hxs : xs = [] := List.eq_nil_of_length_eq_zero hown.len
    subst hxs
    refine wpList_append_own w hgd s x 28 ho w.heap.size 24 i0 (.int .u32 0) 1 4 Try.underlying28 hi hz0 hz1 hz2 rfl (by decide) _ 0 [] hs (World.ownsRow_nil w _ _ _) ad m c _ hx hl hnews h1 (by unfold maxLen; omega) (by omega) (Nat.le_refl _) ?_
    intro v' w' q1 q2 q3
    rcases q1.2 with ⟨q4, q5⟩ | ⟨g', cap', cur, q4, q5, q6⟩
    · omega
    · subst q4
      refine h _ _ w' ?_ q2 fun bd e => ?_
      · refine ⟨by simpa using q1.1, Or.inr ⟨g', cap', cur, rfl, Nat.zero_le _, ?_⟩⟩
        simpa using q6
      · cases e; exact Or.inr q5
  · cases hv
    rw [Nat.mul_one] at hcs ht
    by_cases room : n + m ≤ cap
    · have hfit : n * i0.size + (ys.map (Value.int .u32)).length ≤ cur.size := by rw [hz1, hl, hcs]; omega
      have hr := fun ty => run_append_room (P := Try.prog) w 28 ty 24 i0 Try.underlying28 hi g n cap cur hg ad m c _ (by rw [hz1]; exact hl) hnews h1 room hfit
      refine wpList_plain hgd fun _ hK => ?_
      unfold Oper.wp execOp
      simp only [ho, resolve, invoke, builtin, Sem.run_bind, Sem.run_pure, Result.andThen_ok, List.map_toArray, List.map_cons, List.map_nil, hs, hx, hr]
      refine hK _ _ (h _ _ _ ?_ ?_ fun bd e => Or.inl e)
      · refine ⟨by rw [List.length_map, List.length_append, hown.len, hY.len, Nat.mul_one], Or.inr ⟨g, cap, _, rfl, Nat.zero_le _, setRow_heap w g cur _ _ _ hg, room, hcm, ?_, ?_⟩⟩
        · simp only [List.size_toArray, List.length_append, List.length_take, List.length_drop, Array.length_toList]
          rw [Nat.mul_one]
          omega
        · rw [hz1, Nat.mul_one, Nat.mul_one, ht, ← List.map_append]
          have e : n + m = ((xs ++ ys).map (Value.int .u32)).length := by rw [List.length_map, List.length_append, hown.len, hY.len]
          rw [e]
          exact List.take_left
      · exact ⟨rfl, rfl, rfl, by simp, fun k _ hk => setRow_other w g k _ (fun e => hk (by simp [Value.ownBlock, e]))⟩
    · have holds : ∀ j u, (xs.map (Value.int .u32))[j]? = some u → w.cell? ((⟨g, 0, none⟩ : Addr).add j) = some u := World.ownsRow.cells hown (g := g) rfl
      have hr := fun ty => run_append_grow (P := Try.prog) w 28 ty 24 i0 (.int .u32 0) Try.underlying28 hi hz0 ⟨g, 0, none⟩ n cap _ (by rw [hz1, Nat.mul_one, List.length_map, hown.len]) holds ad m c _ (by rw [hz1]; exact hl) hnews (by omega) (by omega) (growslice_fits (by omega) (by rw [hz2]; omega))
      have hge := grownCap_ge w (n + m) cap 24
      have hcm' : grownCap w (n + m) cap 24 ≤ maxLen := grownCap_le_maxLen w (n + m) cap _ (by unfold maxLen; omega)
      refine wpList_plain hgd fun _ hK => ?_
      unfold Oper.wp execOp
      simp only [ho, resolve, invoke, builtin, Sem.run_bind, Sem.run_pure, Result.andThen_ok, List.map_toArray, List.map_cons, List.map_nil, hs, hx, hr]
      refine hK _ _ (h _ _ _ ?_ ⟨rfl, rfl, rfl, by simp, fun k hk _ => heap_alloc_old w.drew _ hk⟩ fun bd e => Or.inr (by cases e; exact Nat.le_refl _))
      have e : n + m = ((xs ++ ys).map (Value.int .u32)).length := by rw [List.length_map, List.length_append, hown.len, hY.len]
      refine ⟨by rw [Nat.mul_one]; exact e.symm, Or.inr ⟨w.heap.size, _, _, rfl, Nat.zero_le _, heap_alloc_new w.drew _, hge, hcm', ?_, ?_⟩⟩
      · simp only [Array.size_append, List.size_toArray, size_zeroCells, Nat.mul_one, List.length_map, hown.len, hY.len]
        show n + m + (_ - (n + m)) * 1 = _
        omega
      · simp only [Array.toList_append, List.append_assoc]
        rw [← List.append_assoc, Nat.mul_one, ← List.map_append, e]
        exact List.take_left
end Go.Proofs.Ytlmddkciamdldaa

/-
  The contracts of package word: what each call answers; none touches the world.
-/
namespace Go.Proofs.Ytlmddkciamdldaa
open Go.RowKit
set_option linter.unusedVariables false
set_option linter.unusedSimpArgs false
set_option maxRecDepth 100000

theorem ret1 {k : IntKind} {a b : Int} {w : World} (h : a = b) : Ending.returned (.int k a) = .returned (.int k b) ∧ w = w := ⟨by rw [h], rfl⟩
theorem ret1b {a b : Bool} {w : World} (h : a = b) : Ending.returned (.bool a) = .returned (.bool b) ∧ w = w := ⟨by rw [h], rfl⟩
theorem ret3 {k : IntKind} {a b : Int} {c d e f : Bool} {w : World} (h : a = b) (h1 : c = d) (h2 : e = f) :
    Ending.returned (.tuple #[.int k a, .bool c, .bool e]) = .returned (.tuple #[.int k b, .bool d, .bool f]) ∧ w = w := ⟨by rw [h, h1, h2], rfl⟩
theorem ret3i {k l : IntKind} {a b c d : Int} {e f : Bool} {w : World} (h : a = b) (h1 : c = d) (h2 : e = f) :
    Ending.returned (.tuple #[.int k a, .int l c, .bool e]) = .returned (.tuple #[.int k b, .int l d, .bool f]) ∧ w = w := ⟨by rw [h, h1, h2], rfl⟩
theorem ret3iw {k l : IntKind} {a b c d : Int} {e f : Bool} {w : World} (h : a = b) (h1 : c = d) (h2 : e = f) :
    Ending.returned (.tuple #[.int k a, .int l c, .bool e]) = .returned (.tuple #[.int k b, .int l d, .bool f]) ∧ w = w := ⟨by rw [h, h1, h2], rfl⟩
theorem ret2i {k l : IntKind} {a b c d : Int} {w : World} (h : a = b) (h1 : c = d) :
    Ending.returned (.tuple #[.int k a, .int l c]) = .returned (.tuple #[.int k b, .int l d]) ∧ w = w := ⟨by rw [h, h1], rfl⟩

set_option maxHeartbeats 400000 in
theorem unit_any (c : Bool) (w : World) :
    Calls Try.prog 91 #[.bool c] w fun e w' => e = .returned (.int .i64 (W.one c)) ∧ w = w' := by
  cases c
  all_goals
    go_enter Try.func91, Try.ntmps91
    go_wp2
    go_ret
    exact ret1 rfl
set_option maxHeartbeats 400000 in
theorem isSigned_any (x : Int) (w : World) :
    Calls Try.prog 92 #[.int .i64 x] w fun e w' => e = .returned (.bool (W.inS x)) ∧ w = w' := by
  by_cases h : -2147483648 ≤ x
  · go_enter Try.func92, Try.ntmps92
    go_wp2
    go_ret
    exact ret1b (by simp [W.inS, h])
  · go_enter Try.func92, Try.ntmps92
    go_wp2
    go_ret
    exact ret1b (by simp [W.inS]; omega)
set_option maxHeartbeats 400000 in
theorem signed_any (a : Int) (h0 : 0 ≤ a) (h1 : a < 4294967296) (w : World) :
    Calls Try.prog 93 #[.int .u32 a] w fun e w' => e = .returned (.int .i64 (W.sgn a)) ∧ w = w' := by
  go_enter Try.func93, Try.ntmps93
  go_wp2
  go_ret
  exact ret1 (W.wrap_sgn a h0 h1)
set_option maxHeartbeats 400000 in
theorem add_any (a b : Int) (c : Bool) (h0 : 0 ≤ a) (h1 : a < 4294967296) (h2 : 0 ≤ b) (h3 : b < 4294967296) (w : World) :
    Calls Try.prog 79 #[.int .u32 a, .int .u32 b, .bool c] w fun e w' =>
      e = .returned (.tuple #[.int .u32 (W.low (a + b + W.one c)), .bool (W.over (a + b + W.one c)), .bool (!W.inS (W.sgn a + W.sgn b + W.one c))]) ∧ w = w' := by
  have o1 := W.one_lo c
  have o2 := W.one_hi c
  have s1 := W.sgn_lo a h0
  have s2 := W.sgn_hi a h1
  have s3 := W.sgn_lo b h2
  have s4 := W.sgn_hi b h3
  go_enter Try.func79, Try.ntmps79
  go_wp2_with (first
    | (go_at_call 91; refine (unit_any _ _).mono ?_; rintro e w' ⟨rfl, rfl⟩)
    | (go_at_call 93; refine (signed_any _ (by omega) (by omega) _).mono ?_; rintro e w' ⟨rfl, rfl⟩)
    | (go_at_call 92; refine (isSigned_any _ _).mono ?_; rintro e w' ⟨rfl, rfl⟩))
  go_ret3
  exact ret3 rfl rfl rfl
set_option maxHeartbeats 400000 in
theorem sub_any (a b : Int) (c : Bool) (h0 : 0 ≤ a) (h1 : a < 4294967296) (h2 : 0 ≤ b) (h3 : b < 4294967296) (w : World) :
    Calls Try.prog 82 #[.int .u32 a, .int .u32 b, .bool c] w fun e w' =>
      e = .returned (.tuple #[.int .u32 (W.low (a - b - W.one c)), .bool (W.neg (a - b - W.one c)), .bool (!W.inS (W.sgn a - W.sgn b - W.one c))]) ∧ w = w' := by
  have o1 := W.one_lo c
  have o2 := W.one_hi c
  have s1 := W.sgn_lo a h0
  have s2 := W.sgn_hi a h1
  have s3 := W.sgn_lo b h2
  have s4 := W.sgn_hi b h3
  go_enter Try.func82, Try.ntmps82
  go_wp2_with (first
    | (go_at_call 91; refine (unit_any _ _).mono ?_; rintro e w' ⟨rfl, rfl⟩)
    | (go_at_call 93; refine (signed_any _ (by omega) (by omega) _).mono ?_; rintro e w' ⟨rfl, rfl⟩)
    | (go_at_call 92; refine (isSigned_any _ _).mono ?_; rintro e w' ⟨rfl, rfl⟩))
  go_ret3
  exact ret3 rfl rfl rfl
set_option maxHeartbeats 400000 in
theorem mul_any (a b : Int) (u : Bool) (h0 : 0 ≤ a) (h1 : a < 4294967296) (h2 : 0 ≤ b) (h3 : b < 4294967296) (w : World) :
    Calls Try.prog 85 #[.int .u32 a, .int .u32 b, .bool u] w fun e w' =>
      e = .returned (.tuple #[.int .u32 (W.low (W.prod u a b)), .int .u32 (W.low (W.prod u a b / 4294967296))]) ∧ w = w' := by
  cases u
  · go_enter Try.func85, Try.ntmps85
    go_wp2_with (first
      | (go_at_call 93; refine (signed_any _ (by omega) (by omega) _).mono ?_; rintro e w' ⟨rfl, rfl⟩))
    go_ret2
    exact ret2i (W.wrapS _) (W.wrapS' _)
  · go_enter Try.func85, Try.ntmps85
    go_wp2_with (first
      | (go_at_call 93; refine (signed_any _ (by omega) (by omega) _).mono ?_; rintro e w' ⟨rfl, rfl⟩))
    go_ret2
    exact ret2i (W.wrapU _) (W.wrapU' _)
set_option maxHeartbeats 400000 in
theorem shift_any (k a n : Int) (h0 : 0 ≤ a) (h1 : a < 4294967296) (h2 : 0 ≤ n) (h3 : n < 4294967296) (w : World) :
    Calls Try.prog 70 #[.int .i64 k, .int .u32 a, .int .u32 n] w fun e w' =>
      e = .returned (.int .u32 (W.shift k a n)) ∧ w = w' := by
  have Hm : Hid (((32 - ((n % 32).toNat : Int)).toNat) = 32 - (n % 32).toNat) := Lib.hid (by omega)
  have Hn : Hid ((((n % 32).toNat : Nat) : Int) = n % 32) := Lib.hid (by omega)
  have hlt : (n % 32).toNat < 32 := by omega
  go_enter Try.func70, Try.ntmps70
  go_wp2
  all_goals go_ret
  · rename_i hk
    exact ret1 (by have : k = 1 := by simpa using hk
                   simp only [W.shift, W.shiftN, if_pos this]; rfl)
  · rename_i hk1 hk
    exact ret1 (by have h : k = 2 := by simpa using hk
                   have h' : ¬ k = 1 := by omega
                   simp only [W.shift, W.shiftN, if_neg h', if_pos h, W.sr]
                   rw [W.wrap32_sgn a h0 h1])
  · rename_i hk1 hk2 hk
    exact ret1 (by have h : k = 3 := by simpa using hk
                   have h' : ¬ k = 1 := by omega
                   have h'' : ¬ k = 2 := by omega
                   simp only [W.shift, W.shiftN, if_neg h', if_neg h'', if_pos h]
                   have := W.ro_bits a (n % 32).toNat hlt h0 h1 Hm.out
                   rw [Hn.out] at this
                   exact this)
  · rename_i hk1 hk2 hk
    exact ret1 (by have h : ¬ k = 3 := by simpa using hk
                   have h' : ¬ k = 1 := by simpa using hk1
                   have h'' : ¬ k = 2 := by simpa using hk2
                   simp only [W.shift, W.shiftN, if_neg h', if_neg h'', if_neg h])
set_option maxHeartbeats 400000 in
theorem div_no (a b : Int) (h0 : 0 ≤ a) (h1 : a < 4294967296) (h2 : 0 ≤ b) (h3 : b < 4294967296) (hb : W.sgn b ≤ 0) (w : World) :
    Calls Try.prog 94 #[.int .u32 a, .int .u32 b] w fun e w' =>
      e = .returned (.tuple #[.int .u32 0, .int .u32 0, .bool false]) ∧ w = w' := by
  go_enter Try.func94, Try.ntmps94
  go_wp2_with (first
    | (go_at_call 93; refine (signed_any _ (by omega) (by omega) _).mono ?_; rintro e w' ⟨rfl, rfl⟩))
  go_ret3
  exact ret3i rfl rfl rfl
set_option maxHeartbeats 400000 in
theorem div_yes (a b : Int) (h0 : 0 ≤ a) (h1 : a < 4294967296) (h2 : 0 ≤ b) (h3 : b < 4294967296) (hb : 0 < W.sgn b) (w : World) :
    Calls Try.prog 94 #[.int .u32 a, .int .u32 b] w fun e w' =>
      e = .returned (.tuple #[.int .u32 (W.low (W.sgn a / W.sgn b)), .int .u32 (W.low (W.sgn a % W.sgn b)), .bool true]) ∧ w.drew = w' := by
  have s1 := W.sgn_lo a h0
  have s2 := W.sgn_hi a h1
  have s4 := W.sgn_hi b h3
  have hb1 : (W.sgn b == 0) = false := by simp; omega
  go_enter Try.func94, Try.ntmps94
  go_wp2_with (first
    | (go_at_call 93; refine (signed_any _ (by omega) (by omega) _).mono ?_; rintro e w' ⟨rfl, rfl⟩))
  go_region
  all_goals go_wp2
  all_goals go_ret3
  · rename_i hneg
    exact ret3iw (by rw [W.wrap64_low, (W.quo_neg _ _ hb hneg).1]) (by rw [W.wrap64_low, (W.quo_neg _ _ hb hneg).2]) rfl
  · rename_i hpos
    exact ret3iw (by rw [(W.quo_pos _ _ hb (by omega)).1]; rfl) (by rw [(W.quo_pos _ _ hb (by omega)).2]; rfl) rfl

/-! the same, what is answered under names of the caller's own -/
end Go.Proofs.Ytlmddkciamdldaa

/-
  The contracts of the small functions of package alu.
-/
namespace Go.Proofs.Ytlmddkciamdldaa
open Go.RowKit
set_option linter.unusedVariables false
set_option linter.unusedSimpArgs false
set_option maxRecDepth 100000
theorem A.show_eq (x : Int) (h0 : 0 ≤ x) (h1 : x < 4294967296) : (x / 2147483648 == 1) = decide (2147483648 ≤ x) := by
  rw [Bool.eq_iff_iff]; simp; omega
theorem A.info25 (s : A.Regs) : (Try.prog.info? 27).map (·.size) = some (A.cells s).size := by rw [A.size_cells]; kernel_rfl
theorem show_any (s : A.Regs) (x : Int) (h0 : 0 ≤ x) (h1 : x < 4294967296) (w : World) :
    Calls Try.prog 30 #[.agg (A.cells s), .int .u32 x] w fun e w' => e = .returned (.agg (A.cells (A.show' s x))) ∧ Kept w w' := by
  go_enter Try.func30, Try.ntmps30
  go_wp2_with (first
    | (with_reducible refine load_has rfl 27 _ rfl _ rfl ((Has.new _ _ _).alloc _) Try.underlying27 rfl (A.info25 _) ?_)
    | (with_reducible refine store_last rfl 27 _ _ rfl _ _ rfl rfl (by simp) (A.info25 _) (by kernel_rfl) (A.one_cells _) ?_))
  refine bodyPost_ret (results_has rfl (w.heap.size + 1) rfl (by have := Has.new (A.cells (A.setZ (A.setN s (x / 2147483648 == 1)) (x == 0))) 27 (w.alloc (Obj.cells (A.cells (A.setZ (A.setN s (x / 2147483648 == 1)) (x == 0))) 27)); simpa using this) Try.underlying27 rfl (A.info25 _)) rfl ⟨?_, ?_⟩
  · rw [A.show_eq x h0 h1]; rfl
  · exact ((Kept.refl w).alloc _ _).alloc _ _
theorem A.infoOp (s : A.Regs) (b n : Int) (u : Bool) : (Try.prog.info? 80).map (·.size) = some (A.opnd s b n u).size := by rw [A.size_opnd]; kernel_rfl
theorem A.infoOut (x : Int) (s : A.Regs) (t : Int) : (Try.prog.info? 77).map (·.size) = some (A.outc x s t).size := by rw [A.size_outc]; kernel_rfl
theorem A.shapeOut : shapeOf Try.prog 77 = some (A.outc 0 A.none' 0, [(0, 1), (1, 21), (22, 1)]) := by kernel_rfl
theorem A.builtOut (x : Int) (s : A.Regs) : Try.prog.built 77 [(0, .int .u32 x), (1, .agg (A.cells s))] = some (A.outc x s 0) := by
  rw [built_of A.shapeOut]
  simp [Instr.fill, Value.cells, A.cells, A.outc]
theorem just_any (s : A.Regs) (b n x : Int) (u : Bool) (w : World) :
    Calls Try.prog 51 #[.agg (A.opnd s b n u), .int .u32 x] w fun e w' => e = .returned (.agg (A.outc x s 0)) ∧ Kept w w' := by
  go_enter Try.func51, Try.ntmps51
  go_wp2_with (first
    | (with_reducible refine load_part (o := ⟨some 7, _, _, _, _, _⟩) rfl 27 _ rfl _ 0 rfl (A.cells s) ((Has.new _ _ _).alloc _) (A.opnd_regs _ _ _ _) Try.underlying27 rfl (A.info25 _) ?_)
    | ((with_reducible refine build_has (o := ⟨some 8, _, _, _, _, _⟩) rfl 77 _ rfl (A.outc x s 0) ?hf8 ?_); (case hf8 => (go_simp; exact A.builtOut x s)))
    | (with_reducible refine store_last (o := ⟨none, _, _, _, _, _⟩) rfl 77 _ _ rfl _ _ rfl rfl (by simp) (A.infoOut _ _ _) (by kernel_rfl) (A.one_outc _ _ _) ?_))
  exact bodyPost_ret (results_has rfl (w.heap.size + 1) rfl (Has.new1 _ _ _ _) Try.underlying77 rfl (A.infoOut _ _ _)) rfl ⟨rfl, ((Kept.refl w).alloc _ _).alloc _ _⟩
theorem carry_any (s : A.Regs) (b n : Int) (u : Bool) (w : World) :
    Calls Try.prog 80 #[.agg (A.opnd s b n u)] w fun e w' => e = .returned (.bool (u && s.c)) ∧ Kept w w' := by
  cases u
  all_goals
    go_enter Try.func80, Try.ntmps80
    go_wp2
    go_ret
    exact r1bk (by simp) ((Kept.refl w).alloc _ _)
theorem withFlags_any (s : A.Regs) (b n x : Int) (u c v : Bool) (w : World) :
    Calls Try.prog 78 #[.agg (A.opnd s b n u), .int .u32 x, .bool c, .bool v] w fun e w' => e = .returned (.agg (A.outc x (A.setV (A.setC s c) v) 0)) ∧ Kept w w' := by
  go_enter Try.func78, Try.ntmps78
  go_wp2_with (first
    | (with_reducible refine load_has (o := ⟨some 15, _, _, _, _, _⟩) rfl 80 _ rfl _ rfl ((Has.new _ _ _).alloc _) Try.underlying80 rfl (A.infoOp _ _ _ _) ?_)
    | (with_reducible refine store_has (o := ⟨none, Op.store 77 _ _, _, _, _, _⟩) rfl 77 _ _ rfl _ _ rfl rfl (by assumption) (A.infoOut _ _ _) (by kernel_rfl) (A.one_outc _ _ _) ?_)
    | (go_at_call 51; (refine (just_any _ _ _ _ _ _).mono ?_; rintro e w2 ⟨rfl, hK2⟩); (have hX := (Has.new1 _ _ _ _).kept hK2); (have hK := (((Kept.refl w).alloc _ _).alloc _ _).trans hK2); clear hK2))
  exact bodyPost_ret (results_has rfl (w.heap.size + 1) rfl (hX.row _) Try.underlying77 rfl (A.infoOut _ _ _)) rfl ⟨rfl, hK.row (by omega) _⟩
theorem withHigh_any (s : A.Regs) (b n x h : Int) (u : Bool) (w : World) :
    Calls Try.prog 84 #[.agg (A.opnd s b n u), .int .u32 x, .int .u32 h] w fun e w' => e = .returned (.agg (A.outc x (A.setH s h) 0)) ∧ Kept w w' := by
  go_enter Try.func84, Try.ntmps84
  go_wp2_with (first
    | (with_reducible refine load_has (o := ⟨some 10, _, _, _, _, _⟩) rfl 80 _ rfl _ rfl ((Has.new _ _ _).alloc _) Try.underlying80 rfl (A.infoOp _ _ _ _) ?_)
    | (with_reducible refine store_has (o := ⟨none, Op.store 77 _ _, _, _, _, _⟩) rfl 77 _ _ rfl _ _ rfl rfl (by assumption) (A.infoOut _ _ _) (by kernel_rfl) (A.one_outc _ _ _) ?_)
    | (go_at_call 51; refine (just_any _ _ _ _ _ _).mono ?_; rintro e w2 ⟨rfl, hK2⟩; have hX := (Has.new1 _ _ _ _).kept hK2; have hK := (((Kept.refl w).alloc _ _).alloc _ _).trans hK2; clear hK2))
  exact bodyPost_ret (results_has rfl (w.heap.size + 1) rfl (hX.row _) Try.underlying77 rfl (A.infoOut _ _ _)) rfl ⟨rfl, hK.row (by omega) _⟩
end Go.Proofs.Ytlmddkciamdldaa

/-
  The contracts of the rows of the table of package alu: what comes of each operation.
-/
namespace Go.Proofs.Ytlmddkciamdldaa
open Go.RowKit
set_option linter.unusedVariables false
set_option linter.unusedSimpArgs false
set_option maxRecDepth 100000
theorem move_t (s : A.Regs) (b n : Int) (h0 : 0 ≤ b) (h1 : b < 4294967296) (h2 : 0 ≤ n) (h3 : n < 4294967296) (w : World) :
    Calls Try.prog 68 #[.agg (A.opnd s b n true)] w fun e w' => e = .returned (.agg (A.outc (n * 65536 % 4294967296) s 0)) ∧ Kept w w' := by
  go_enter Try.func68, Try.ntmps68
  go_wp2_with (first
    | (with_reducible refine load_has (o := ⟨some 5, _, _, _, _, _⟩) rfl 80 _ rfl _ rfl ((Has.new _ _ _).alloc _) Try.underlying80 rfl (A.infoOp _ _ _ _) ?_)
    | (with_reducible refine store_has (o := ⟨none, Op.store 77 _ _, _, _, _, _⟩) rfl 77 _ _ rfl _ _ rfl rfl (by assumption) (A.infoOut _ _ _) (by kernel_rfl) (A.one_outc _ _ _) ?_)
    | (go_at_call 51; (refine (just_any _ _ _ _ _ _).mono ?_; rintro e w2 ⟨rfl, hK2⟩); (have hX := (Has.new1 _ _ _ _).kept hK2); (have hK := (((Kept.refl w).alloc _ _).alloc _ _).trans hK2); clear hK2))
  exact bodyPost_ret (results_has rfl (w.heap.size + 1) rfl (hX.row _) Try.underlying77 rfl (A.infoOut _ _ _)) rfl ⟨rfl, hK.row (by omega) _⟩
theorem move_f (s : A.Regs) (b n : Int) (h0 : 0 ≤ b) (h1 : b < 4294967296) (h2 : 0 ≤ n) (h3 : n < 4294967296) (w : World) :
    Calls Try.prog 68 #[.agg (A.opnd s b n false)] w fun e w' => e = .returned (.agg (A.outc n s 0)) ∧ Kept w w' := by
  go_enter Try.func68, Try.ntmps68
  go_wp2_with (first
    | (with_reducible refine load_has (o := ⟨some 10, _, _, _, _, _⟩) rfl 80 _ rfl _ rfl ((Has.new _ _ _).alloc _) Try.underlying80 rfl (A.infoOp _ _ _ _) ?_)
    | (with_reducible refine store_has (o := ⟨none, Op.store 77 _ _, _, _, _, _⟩) rfl 77 _ _ rfl _ _ rfl rfl (by assumption) (A.infoOut _ _ _) (by kernel_rfl) (A.one_outc _ _ _) ?_)
    | (go_at_call 51; (refine (just_any _ _ _ _ _ _).mono ?_; rintro e w2 ⟨rfl, hK2⟩); (have hX := (Has.new1 _ _ _ _).kept hK2); (have hK := (((Kept.refl w).alloc _ _).alloc _ _).trans hK2); clear hK2))
  exact bodyPost_ret (results_has rfl (w.heap.size + 1) rfl (hX.row _) Try.underlying77 rfl (A.infoOut _ _ _)) rfl ⟨rfl, hK.row (by omega) _⟩
theorem high_any (s : A.Regs) (b n : Int) (u : Bool) (w : World) :
    Calls Try.prog 40 #[.agg (A.opnd s b n u)] w fun e w' => e = .returned (.agg (A.outc s.h s 0)) ∧ Kept w w' := by
  go_enter Try.func40, Try.ntmps40
  go_wp2_with (first
    | (with_reducible refine load_has (o := ⟨some 3, _, _, _, _, _⟩) rfl 80 _ rfl _ rfl ((Has.new _ _ _).alloc _) Try.underlying80 rfl (A.infoOp _ _ _ _) ?_)
    | (with_reducible refine store_has (o := ⟨none, Op.store 77 _ _, _, _, _, _⟩) rfl 77 _ _ rfl _ _ rfl rfl (by assumption) (A.infoOut _ _ _) (by kernel_rfl) (A.one_outc _ _ _) ?_)
    | (go_at_call 51; (refine (just_any _ _ _ _ _ _).mono ?_; rintro e w2 ⟨rfl, hK2⟩); (have hX := (Has.new1 _ _ _ _).kept hK2); (have hK := (((Kept.refl w).alloc _ _).alloc _ _).trans hK2); clear hK2))
  exact bodyPost_ret (results_has rfl (w.heap.size + 1) rfl (hX.row _) Try.underlying77 rfl (A.infoOut _ _ _)) rfl ⟨rfl, hK.row (by omega) _⟩
theorem bit_and (s : A.Regs) (b n : Int) (u : Bool) (h0 : 0 ≤ b) (h1 : b < 4294967296) (h2 : 0 ≤ n) (h3 : n < 4294967296) (w : World) :
    Calls Try.prog 73 #[.agg (A.opnd s b n u)] w fun e w' => e = .returned (.agg (A.outc (bits BinOp.and IntKind.u32 b n) s 0)) ∧ Kept w w' := by
  go_enter Try.func73, Try.ntmps73
  go_wp2_with (first
    | (with_reducible refine load_has (o := ⟨some 3, _, _, _, _, _⟩) rfl 80 _ rfl _ rfl ((Has.new _ _ _).alloc _) Try.underlying80 rfl (A.infoOp _ _ _ _) ?_)
    | (with_reducible refine store_has (o := ⟨none, Op.store 77 _ _, _, _, _, _⟩) rfl 77 _ _ rfl _ _ rfl rfl (by assumption) (A.infoOut _ _ _) (by kernel_rfl) (A.one_outc _ _ _) ?_)
    | (go_at_call 51; (refine (just_any _ _ _ _ _ _).mono ?_; rintro e w2 ⟨rfl, hK2⟩); (have hX := (Has.new1 _ _ _ _).kept hK2); (have hK := (((Kept.refl w).alloc _ _).alloc _ _).trans hK2); clear hK2))
  exact bodyPost_ret (results_has rfl (w.heap.size + 1) rfl (hX.row _) Try.underlying77 rfl (A.infoOut _ _ _)) rfl ⟨rfl, hK.row (by omega) _⟩
theorem bit_andNot (s : A.Regs) (b n : Int) (u : Bool) (h0 : 0 ≤ b) (h1 : b < 4294967296) (h2 : 0 ≤ n) (h3 : n < 4294967296) (w : World) :
    Calls Try.prog 74 #[.agg (A.opnd s b n u)] w fun e w' => e = .returned (.agg (A.outc (bits BinOp.andNot IntKind.u32 b n) s 0)) ∧ Kept w w' := by
  go_enter Try.func74, Try.ntmps74
  go_wp2_with (first
    | (with_reducible refine load_has (o := ⟨some 3, _, _, _, _, _⟩) rfl 80 _ rfl _ rfl ((Has.new _ _ _).alloc _) Try.underlying80 rfl (A.infoOp _ _ _ _) ?_)
    | (with_reducible refine store_has (o := ⟨none, Op.store 77 _ _, _, _, _, _⟩) rfl 77 _ _ rfl _ _ rfl rfl (by assumption) (A.infoOut _ _ _) (by kernel_rfl) (A.one_outc _ _ _) ?_)
    | (go_at_call 51; (refine (just_any _ _ _ _ _ _).mono ?_; rintro e w2 ⟨rfl, hK2⟩); (have hX := (Has.new1 _ _ _ _).kept hK2); (have hK := (((Kept.refl w).alloc _ _).alloc _ _).trans hK2); clear hK2))
  exact bodyPost_ret (results_has rfl (w.heap.size + 1) rfl (hX.row _) Try.underlying77 rfl (A.infoOut _ _ _)) rfl ⟨rfl, hK.row (by omega) _⟩
theorem bit_or (s : A.Regs) (b n : Int) (u : Bool) (h0 : 0 ≤ b) (h1 : b < 4294967296) (h2 : 0 ≤ n) (h3 : n < 4294967296) (w : World) :
    Calls Try.prog 75 #[.agg (A.opnd s b n u)] w fun e w' => e = .returned (.agg (A.outc (bits BinOp.or IntKind.u32 b n) s 0)) ∧ Kept w w' := by
  go_enter Try.func75, Try.ntmps75
  go_wp2_with (first
    | (with_reducible refine load_has (o := ⟨some 3, _, _, _, _, _⟩) rfl 80 _ rfl _ rfl ((Has.new _ _ _).alloc _) Try.underlying80 rfl (A.infoOp _ _ _ _) ?_)
    | (with_reducible refine store_has (o := ⟨none, Op.store 77 _ _, _, _, _, _⟩) rfl 77 _ _ rfl _ _ rfl rfl (by assumption) (A.infoOut _ _ _) (by kernel_rfl) (A.one_outc _ _ _) ?_)
    | (go_at_call 51; (refine (just_any _ _ _ _ _ _).mono ?_; rintro e w2 ⟨rfl, hK2⟩); (have hX := (Has.new1 _ _ _ _).kept hK2); (have hK := (((Kept.refl w).alloc _ _).alloc _ _).trans hK2); clear hK2))
  exact bodyPost_ret (results_has rfl (w.heap.size + 1) rfl (hX.row _) Try.underlying77 rfl (A.infoOut _ _ _)) rfl ⟨rfl, hK.row (by omega) _⟩
theorem bit_xor (s : A.Regs) (b n : Int) (u : Bool) (h0 : 0 ≤ b) (h1 : b < 4294967296) (h2 : 0 ≤ n) (h3 : n < 4294967296) (w : World) :
    Calls Try.prog 76 #[.agg (A.opnd s b n u)] w fun e w' => e = .returned (.agg (A.outc (bits BinOp.xor IntKind.u32 b n) s 0)) ∧ Kept w w' := by
  go_enter Try.func76, Try.ntmps76
  go_wp2_with (first
    | (with_reducible refine load_has (o := ⟨some 3, _, _, _, _, _⟩) rfl 80 _ rfl _ rfl ((Has.new _ _ _).alloc _) Try.underlying80 rfl (A.infoOp _ _ _ _) ?_)
    | (with_reducible refine store_has (o := ⟨none, Op.store 77 _ _, _, _, _, _⟩) rfl 77 _ _ rfl _ _ rfl rfl (by assumption) (A.infoOut _ _ _) (by kernel_rfl) (A.one_outc _ _ _) ?_)
    | (go_at_call 51; (refine (just_any _ _ _ _ _ _).mono ?_; rintro e w2 ⟨rfl, hK2⟩); (have hX := (Has.new1 _ _ _ _).kept hK2); (have hK := (((Kept.refl w).alloc _ _).alloc _ _).trans hK2); clear hK2))
  exact bodyPost_ret (results_has rfl (w.heap.size + 1) rfl (hX.row _) Try.underlying77 rfl (A.infoOut _ _ _)) rfl ⟨rfl, hK.row (by omega) _⟩
set_option maxHeartbeats 1000000 in
theorem shift_1 (s : A.Regs) (b n : Int) (u : Bool) (h0 : 0 ≤ b) (h1 : b < 4294967296) (h2 : 0 ≤ n) (h3 : n < 4294967296) (w : World) :
    Calls Try.prog 69 #[.agg (A.opnd s b n u)] w fun e w' => e = .returned (.agg (A.outc (W.shift 1 b n) s 0)) ∧ Kept w w' := by
  have hS0 : (fun w' => Kept w w' ∧ Has w.heap.size (A.opnd s b n u) 80 w' ∧ HasN (w.heap.size + 1) 23 77 w') ((w.alloc (.cells (A.opnd s b n u) 80)).alloc (.cells (A.outc 0 A.none' 0) 77)) := ⟨((Kept.refl w).alloc _ _).alloc _ _, (Has.new _ _ _).alloc _, ⟨_, rfl, Has.new1 _ _ _ _⟩⟩
  have HS0 := Lib.hid hS0
  clear hS0
  go_enter Try.func69, Try.ntmps69
  go_wp2_with fail
  refine wp_region_held_drew (S := fun w' => Kept w w' ∧ Has w.heap.size (A.opnd s b n u) 80 w' ∧ HasN (w.heap.size + 1) 23 77 w') (by kernel_rfl) ?_ (fun hHeld => ?_)
  · exact ⟨HS0.out.1.drew, HS0.out.2.1.drew, HS0.out.2.2⟩
  refine wpAnyH_take (i := 0) (oi := { dst := some 3, op := Op.load 80 (Operand.tmp 1), type := 80, pos := "alu.go:74", after := #[], guard := none }) (v := ?_) rfl (by kernel_rfl) (by kernel_rfl) (by kernel_rfl) (fun _ _ _ h => h) (Or.inl ⟨rfl, ?_⟩) hHeld ?_
  rotate_left
  · (intro wz hSw; refine exec_load_has 80 (Operand.tmp 1) ?_ _ ?_ hSw.2.1 Try.underlying80 rfl (A.infoOp _ _ _ _) <;> rfl)
  try simp only [Act.put, List.setIfInBounds_toArray, List.set_cons_zero, List.set_cons_succ]
  refine wpAnyH_take (i := 1) (oi := { dst := some 4, op := Op.fieldAddr 80 (Operand.tmp 1) 1, type := 0, pos := "alu.go:74", after := #[], guard := none }) (v := ?_) rfl (by kernel_rfl) (by kernel_rfl) (by kernel_rfl) (fun _ _ _ h => h) (Or.inl ⟨rfl, ?_⟩) hHeld ?_
  rotate_left
  · (intro wz hSw; (try dsimp only at hSw); have q1 := hSw.2.1.cell 21 _ (A.opnd_b _ _ _ _); have q2 := hSw.2.1.cell 22 _ (A.opnd_nn _ _ _ _); have q3 := hSw.2.1.cell 23 _ (A.opnd_u _ _ _ _); go_simp; try with_reducible rfl)
  try simp only [Act.put, List.setIfInBounds_toArray, List.set_cons_zero, List.set_cons_succ]
  refine wpAnyH_take (i := 2) (oi := { dst := some 5, op := Op.load 24 (Operand.tmp 4), type := 24, pos := "alu.go:74", after := #[eD 1], guard := none }) (v := ?_) rfl (by kernel_rfl) (by kernel_rfl) (by kernel_rfl) (fun _ _ _ h => h) (Or.inl ⟨rfl, ?_⟩) hHeld ?_
  rotate_left
  · (intro wz hSw; (try dsimp only at hSw); have q1 := hSw.2.1.cell 21 _ (A.opnd_b _ _ _ _); have q2 := hSw.2.1.cell 22 _ (A.opnd_nn _ _ _ _); have q3 := hSw.2.1.cell 23 _ (A.opnd_u _ _ _ _); go_simp; try with_reducible rfl)
  try simp only [Act.put, List.setIfInBounds_toArray, List.set_cons_zero, List.set_cons_succ]
  refine wpAnyH_take (i := 3) (oi := { dst := some 6, op := Op.fieldAddr 80 (Operand.tmp 1) 2, type := 0, pos := "alu.go:74", after := #[], guard := none }) (v := ?_) rfl (by kernel_rfl) (by kernel_rfl) (by kernel_rfl) (fun _ _ _ h => h) (Or.inl ⟨rfl, ?_⟩) hHeld ?_
  rotate_left
  · (intro wz hSw; (try dsimp only at hSw); have q1 := hSw.2.1.cell 21 _ (A.opnd_b _ _ _ _); have q2 := hSw.2.1.cell 22 _ (A.opnd_nn _ _ _ _); have q3 := hSw.2.1.cell 23 _ (A.opnd_u _ _ _ _); go_simp; try with_reducible rfl)
  try simp only [Act.put, List.setIfInBounds_toArray, List.set_cons_zero, List.set_cons_succ]
  refine wpAnyH_take (i := 4) (oi := { dst := some 7, op := Op.load 24 (Operand.tmp 6), type := 24, pos := "alu.go:74", after := #[eD 3], guard := none }) (v := ?_) rfl (by kernel_rfl) (by kernel_rfl) (by kernel_rfl) (fun _ _ _ h => h) (Or.inl ⟨rfl, ?_⟩) hHeld ?_
  rotate_left
  · (intro wz hSw; (try dsimp only at hSw); have q1 := hSw.2.1.cell 21 _ (A.opnd_b _ _ _ _); have q2 := hSw.2.1.cell 22 _ (A.opnd_nn _ _ _ _); have q3 := hSw.2.1.cell 23 _ (A.opnd_u _ _ _ _); go_simp; try with_reducible rfl)
  try simp only [Act.put, List.setIfInBounds_toArray, List.set_cons_zero, List.set_cons_succ]
  refine wpAnyH_ready (rs := [5]) (by kernel_rfl) (by simp) ?_
  refine AllReadyH.cons (o := { dst := some 8, op := Op.call { callee := Callee.value (Operand.func 70), args := #[Operand.const (Value.int IntKind.i64 1), Operand.tmp 5, Operand.tmp 7], argTypes := #[3, 24, 24] }, type := 24, pos := "alu.go:74", after := #[eD 2, eD 4], guard := none }) rfl (fun K hK => ?_) (AllReadyH.nil)
  go_simp
  go_at_call 70
  refine (shift_any 1 b n h0 h1 h2 h3 _).mono ?_
  rintro e w5 ⟨rfl, rfl⟩
  have hN := (show (fun w' => Kept w w' ∧ Has w.heap.size (A.opnd s b n u) 80 w' ∧ HasN (w.heap.size + 1) 23 77 w') _ from hHeld)
  clear hHeld
  refine hK.out _ _ hN (fun hHeld => ?_)
  clear hK K hN
  try simp only [Act.put, List.setIfInBounds_toArray, List.set_cons_zero, List.set_cons_succ]
  refine wpAnyH_ready (rs := [6]) (by kernel_rfl) (by simp) ?_
  refine AllReadyH.cons (o := { dst := some 9, op := Op.call { callee := Callee.value (Operand.func 51), args := #[Operand.tmp 3, Operand.tmp 8], argTypes := #[80, 24] }, type := 77, pos := "alu.go:74", after := #[eD 0, eD 5, eC 5], guard := none }) rfl (fun K hK => ?_) (AllReadyH.nil)
  go_simp
  go_at_call 51
  refine (just_any _ _ _ _ _ _).mono ?_
  rintro e w5 ⟨rfl, hK5⟩
  have hN := (show (fun w' => Kept w w' ∧ Has w.heap.size (A.opnd s b n u) 80 w' ∧ HasN (w.heap.size + 1) 23 77 w') _ from ⟨hHeld.1.trans hK5, hHeld.2.1.kept hK5, hHeld.2.2.kept hK5⟩)
  clear hHeld
  refine hK.out _ _ hN (fun hHeld => ?_)
  clear hK K hN
  try simp only [Act.put, List.setIfInBounds_toArray, List.set_cons_zero, List.set_cons_succ]
  refine wpAnyH_ready (rs := [7]) (by kernel_rfl) (by simp) ?_
  refine AllReadyH.cons (o := { dst := none, op := Op.store 77 (Operand.tmp 2) (Operand.tmp 9), type := 0, pos := "alu.go:74", after := #[eD 6, eC 6, eP 0, eP 1, eP 2, eP 3, eP 4, eP 5, eP 6], guard := none }) rfl (fun K hK => ?_) (AllReadyH.nil)
  obtain ⟨old, hold, hR⟩ := hHeld.2.2
  refine wp_store_row (o := { dst := none, op := Op.store 77 (Operand.tmp 2) (Operand.tmp 9), type := 0, pos := "alu.go:74", after := #[eD 6, eC 6, eP 0, eP 1, eP 2, eP 3, eP 4, eP 5, eP 6], guard := none }) 77 _ _ rfl _ (A.outc (W.shift 1 b n) s 0) ?_ ?_ 77 old hR (A.infoOut _ _ _) hold (A.one_outc _ _ _) ?_
  · rfl
  · rfl
  have hN := (show (fun w' => Kept w w' ∧ Has w.heap.size (A.opnd s b n u) 80 w' ∧ HasN (w.heap.size + 1) 23 77 w') _ from ⟨hHeld.1.row (by omega) _, hHeld.2.1.rowOther (by omega) _, ⟨(A.outc (W.shift 1 b n) s 0), A.size_outc _ _ _, Has.row hR _⟩⟩)
  clear hHeld
  refine hK.out _ _ hN (fun hHeld => ?_)
  clear hK K hN
  try simp only [Act.put, List.setIfInBounds_toArray, List.set_cons_zero, List.set_cons_succ]
  refine wpAnyH_done (by kernel_rfl) ?_ _
  have hR5 := Has.row hR
  clear hR
  go_wp2_with fail
  exact bodyPost_ret (results_has rfl (w.heap.size + 1) rfl (hR5 _) Try.underlying77 rfl (A.infoOut _ _ _)) rfl ⟨rfl, hHeld.1⟩
set_option maxHeartbeats 1000000 in
theorem shift_2 (s : A.Regs) (b n : Int) (u : Bool) (h0 : 0 ≤ b) (h1 : b < 4294967296) (h2 : 0 ≤ n) (h3 : n < 4294967296) (w : World) :
    Calls Try.prog 71 #[.agg (A.opnd s b n u)] w fun e w' => e = .returned (.agg (A.outc (W.shift 2 b n) s 0)) ∧ Kept w w' := by
  have hS0 : (fun w' => Kept w w' ∧ Has w.heap.size (A.opnd s b n u) 80 w' ∧ HasN (w.heap.size + 1) 23 77 w') ((w.alloc (.cells (A.opnd s b n u) 80)).alloc (.cells (A.outc 0 A.none' 0) 77)) := ⟨((Kept.refl w).alloc _ _).alloc _ _, (Has.new _ _ _).alloc _, ⟨_, rfl, Has.new1 _ _ _ _⟩⟩
  have HS0 := Lib.hid hS0
  clear hS0
  go_enter Try.func71, Try.ntmps71
  go_wp2_with fail
  refine wp_region_held_drew (S := fun w' => Kept w w' ∧ Has w.heap.size (A.opnd s b n u) 80 w' ∧ HasN (w.heap.size + 1) 23 77 w') (by kernel_rfl) ?_ (fun hHeld => ?_)
  · exact ⟨HS0.out.1.drew, HS0.out.2.1.drew, HS0.out.2.2⟩
  refine wpAnyH_take (i := 0) (oi := { dst := some 3, op := Op.load 80 (Operand.tmp 1), type := 80, pos := "alu.go:75", after := #[], guard := none }) (v := ?_) rfl (by kernel_rfl) (by kernel_rfl) (by kernel_rfl) (fun _ _ _ h => h) (Or.inl ⟨rfl, ?_⟩) hHeld ?_
  rotate_left
  · (intro wz hSw; refine exec_load_has 80 (Operand.tmp 1) ?_ _ ?_ hSw.2.1 Try.underlying80 rfl (A.infoOp _ _ _ _) <;> rfl)
  try simp only [Act.put, List.setIfInBounds_toArray, List.set_cons_zero, List.set_cons_succ]
  refine wpAnyH_take (i := 1) (oi := { dst := some 4, op := Op.fieldAddr 80 (Operand.tmp 1) 1, type := 0, pos := "alu.go:75", after := #[], guard := none }) (v := ?_) rfl (by kernel_rfl) (by kernel_rfl) (by kernel_rfl) (fun _ _ _ h => h) (Or.inl ⟨rfl, ?_⟩) hHeld ?_
  rotate_left
  · (intro wz hSw; (try dsimp only at hSw); have q1 := hSw.2.1.cell 21 _ (A.opnd_b _ _ _ _); have q2 := hSw.2.1.cell 22 _ (A.opnd_nn _ _ _ _); have q3 := hSw.2.1.cell 23 _ (A.opnd_u _ _ _ _); go_simp; try with_reducible rfl)
  try simp only [Act.put, List.setIfInBounds_toArray, List.set_cons_zero, List.set_cons_succ]
  refine wpAnyH_take (i := 2) (oi := { dst := some 5, op := Op.load 24 (Operand.tmp 4), type := 24, pos := "alu.go:75", after := #[eD 1], guard := none }) (v := ?_) rfl (by kernel_rfl) (by kernel_rfl) (by kernel_rfl) (fun _ _ _ h => h) (Or.inl ⟨rfl, ?_⟩) hHeld ?_
  rotate_left
  · (intro wz hSw; (try dsimp only at hSw); have q1 := hSw.2.1.cell 21 _ (A.opnd_b _ _ _ _); have q2 := hSw.2.1.cell 22 _ (A.opnd_nn _ _ _ _); have q3 := hSw.2.1.cell 23 _ (A.opnd_u _ _ _ _); go_simp; try with_reducible rfl)
  try simp only [Act.put, List.setIfInBounds_toArray, List.set_cons_zero, List.set_cons_succ]
  refine wpAnyH_take (i := 3) (oi := { dst := some 6, op := Op.fieldAddr 80 (Operand.tmp 1) 2, type := 0, pos := "alu.go:75", after := #[], guard := none }) (v := ?_) rfl (by kernel_rfl) (by kernel_rfl) (by kernel_rfl) (fun _ _ _ h => h) (Or.inl ⟨rfl, ?_⟩) hHeld ?_
  rotate_left
  · (intro wz hSw; (try dsimp only at hSw); have q1 := hSw.2.1.cell 21 _ (A.opnd_b _ _ _ _); have q2 := hSw.2.1.cell 22 _ (A.opnd_nn _ _ _ _); have q3 := hSw.2.1.cell 23 _ (A.opnd_u _ _ _ _); go_simp; try with_reducible rfl)
  try simp only [Act.put, List.setIfInBounds_toArray, List.set_cons_zero, List.set_cons_succ]
  refine wpAnyH_take (i := 4) (oi := { dst := some 7, op := Op.load 24 (Operand.tmp 6), type := 24, pos := "alu.go:75", after := #[eD 3], guard := none }) (v := ?_) rfl (by kernel_rfl) (by kernel_rfl) (by kernel_rfl) (fun _ _ _ h => h) (Or.inl ⟨rfl, ?_⟩) hHeld ?_
  rotate_left
  · (intro wz hSw; (try dsimp only at hSw); have q1 := hSw.2.1.cell 21 _ (A.opnd_b _ _ _ _); have q2 := hSw.2.1.cell 22 _ (A.opnd_nn _ _ _ _); have q3 := hSw.2.1.cell 23 _ (A.opnd_u _ _ _ _); go_simp; try with_reducible rfl)
  try simp only [Act.put, List.setIfInBounds_toArray, List.set_cons_zero, List.set_cons_succ]
  refine wpAnyH_ready (rs := [5]) (by kernel_rfl) (by simp) ?_
  refine AllReadyH.cons (o := { dst := some 8, op := Op.call { callee := Callee.value (Operand.func 70), args := #[Operand.const (Value.int IntKind.i64 2), Operand.tmp 5, Operand.tmp 7], argTypes := #[3, 24, 24] }, type := 24, pos := "alu.go:75", after := #[eD 2, eD 4], guard := none }) rfl (fun K hK => ?_) (AllReadyH.nil)
  go_simp
  go_at_call 70
  refine (shift_any 2 b n h0 h1 h2 h3 _).mono ?_
  rintro e w5 ⟨rfl, rfl⟩
  have hN := (show (fun w' => Kept w w' ∧ Has w.heap.size (A.opnd s b n u) 80 w' ∧ HasN (w.heap.size + 1) 23 77 w') _ from hHeld)
  clear hHeld
  refine hK.out _ _ hN (fun hHeld => ?_)
  clear hK K hN
  try simp only [Act.put, List.setIfInBounds_toArray, List.set_cons_zero, List.set_cons_succ]
  refine wpAnyH_ready (rs := [6]) (by kernel_rfl) (by simp) ?_
  refine AllReadyH.cons (o := { dst := some 9, op := Op.call { callee := Callee.value (Operand.func 51), args := #[Operand.tmp 3, Operand.tmp 8], argTypes := #[80, 24] }, type := 77, pos := "alu.go:75", after := #[eD 0, eD 5, eC 5], guard := none }) rfl (fun K hK => ?_) (AllReadyH.nil)
  go_simp
  go_at_call 51
  refine (just_any _ _ _ _ _ _).mono ?_
  rintro e w5 ⟨rfl, hK5⟩
  have hN := (show (fun w' => Kept w w' ∧ Has w.heap.size (A.opnd s b n u) 80 w' ∧ HasN (w.heap.size + 1) 23 77 w') _ from ⟨hHeld.1.trans hK5, hHeld.2.1.kept hK5, hHeld.2.2.kept hK5⟩)
  clear hHeld
  refine hK.out _ _ hN (fun hHeld => ?_)
  clear hK K hN
  try simp only [Act.put, List.setIfInBounds_toArray, List.set_cons_zero, List.set_cons_succ]
  refine wpAnyH_ready (rs := [7]) (by kernel_rfl) (by simp) ?_
  refine AllReadyH.cons (o := { dst := none, op := Op.store 77 (Operand.tmp 2) (Operand.tmp 9), type := 0, pos := "alu.go:75", after := #[eD 6, eC 6, eP 0, eP 1, eP 2, eP 3, eP 4, eP 5, eP 6], guard := none }) rfl (fun K hK => ?_) (AllReadyH.nil)
  obtain ⟨old, hold, hR⟩ := hHeld.2.2
  refine wp_store_row (o := { dst := none, op := Op.store 77 (Operand.tmp 2) (Operand.tmp 9), type := 0, pos := "alu.go:75", after := #[eD 6, eC 6, eP 0, eP 1, eP 2, eP 3, eP 4, eP 5, eP 6], guard := none }) 77 _ _ rfl _ (A.outc (W.shift 2 b n) s 0) ?_ ?_ 77 old hR (A.infoOut _ _ _) hold (A.one_outc _ _ _) ?_
  · rfl
  · rfl
  have hN := (show (fun w' => Kept w w' ∧ Has w.heap.size (A.opnd s b n u) 80 w' ∧ HasN (w.heap.size + 1) 23 77 w') _ from ⟨hHeld.1.row (by omega) _, hHeld.2.1.rowOther (by omega) _, ⟨(A.outc (W.shift 2 b n) s 0), A.size_outc _ _ _, Has.row hR _⟩⟩)
  clear hHeld
  refine hK.out _ _ hN (fun hHeld => ?_)
  clear hK K hN
  try simp only [Act.put, List.setIfInBounds_toArray, List.set_cons_zero, List.set_cons_succ]
  refine wpAnyH_done (by kernel_rfl) ?_ _
  have hR5 := Has.row hR
  clear hR
  go_wp2_with fail
  exact bodyPost_ret (results_has rfl (w.heap.size + 1) rfl (hR5 _) Try.underlying77 rfl (A.infoOut _ _ _)) rfl ⟨rfl, hHeld.1⟩
set_option maxHeartbeats 1000000 in
theorem shift_3 (s : A.Regs) (b n : Int) (u : Bool) (h0 : 0 ≤ b) (h1 : b < 4294967296) (h2 : 0 ≤ n) (h3 : n < 4294967296) (w : World) :
    Calls Try.prog 72 #[.agg (A.opnd s b n u)] w fun e w' => e = .returned (.agg (A.outc (W.shift 3 b n) s 0)) ∧ Kept w w' := by
  have hS0 : (fun w' => Kept w w' ∧ Has w.heap.size (A.opnd s b n u) 80 w' ∧ HasN (w.heap.size + 1) 23 77 w') ((w.alloc (.cells (A.opnd s b n u) 80)).alloc (.cells (A.outc 0 A.none' 0) 77)) := ⟨((Kept.refl w).alloc _ _).alloc _ _, (Has.new _ _ _).alloc _, ⟨_, rfl, Has.new1 _ _ _ _⟩⟩
  have HS0 := Lib.hid hS0
  clear hS0
  go_enter Try.func72, Try.ntmps72
  go_wp2_with fail
  refine wp_region_held_drew (S := fun w' => Kept w w' ∧ Has w.heap.size (A.opnd s b n u) 80 w' ∧ HasN (w.heap.size + 1) 23 77 w') (by kernel_rfl) ?_ (fun hHeld => ?_)
  · exact ⟨HS0.out.1.drew, HS0.out.2.1.drew, HS0.out.2.2⟩
  refine wpAnyH_take (i := 0) (oi := { dst := some 3, op := Op.load 80 (Operand.tmp 1), type := 80, pos := "alu.go:76", after := #[], guard := none }) (v := ?_) rfl (by kernel_rfl) (by kernel_rfl) (by kernel_rfl) (fun _ _ _ h => h) (Or.inl ⟨rfl, ?_⟩) hHeld ?_
  rotate_left
  · (intro wz hSw; refine exec_load_has 80 (Operand.tmp 1) ?_ _ ?_ hSw.2.1 Try.underlying80 rfl (A.infoOp _ _ _ _) <;> rfl)
  try simp only [Act.put, List.setIfInBounds_toArray, List.set_cons_zero, List.set_cons_succ]
  refine wpAnyH_take (i := 1) (oi := { dst := some 4, op := Op.fieldAddr 80 (Operand.tmp 1) 1, type := 0, pos := "alu.go:76", after := #[], guard := none }) (v := ?_) rfl (by kernel_rfl) (by kernel_rfl) (by kernel_rfl) (fun _ _ _ h => h) (Or.inl ⟨rfl, ?_⟩) hHeld ?_
  rotate_left
  · (intro wz hSw; (try dsimp only at hSw); have q1 := hSw.2.1.cell 21 _ (A.opnd_b _ _ _ _); have q2 := hSw.2.1.cell 22 _ (A.opnd_nn _ _ _ _); have q3 := hSw.2.1.cell 23 _ (A.opnd_u _ _ _ _); go_simp; try with_reducible rfl)
  try simp only [Act.put, List.setIfInBounds_toArray, List.set_cons_zero, List.set_cons_succ]
  refine wpAnyH_take (i := 2) (oi := { dst := some 5, op := Op.load 24 (Operand.tmp 4), type := 24, pos := "alu.go:76", after := #[eD 1], guard := none }) (v := ?_) rfl (by kernel_rfl) (by kernel_rfl) (by kernel_rfl) (fun _ _ _ h => h) (Or.inl ⟨rfl, ?_⟩) hHeld ?_
  rotate_left
  · (intro wz hSw; (try dsimp only at hSw); have q1 := hSw.2.1.cell 21 _ (A.opnd_b _ _ _ _); have q2 := hSw.2.1.cell 22 _ (A.opnd_nn _ _ _ _); have q3 := hSw.2.1.cell 23 _ (A.opnd_u _ _ _ _); go_simp; try with_reducible rfl)
  try simp only [Act.put, List.setIfInBounds_toArray, List.set_cons_zero, List.set_cons_succ]
  refine wpAnyH_take (i := 3) (oi := { dst := some 6, op := Op.fieldAddr 80 (Operand.tmp 1) 2, type := 0, pos := "alu.go:76", after := #[], guard := none }) (v := ?_) rfl (by kernel_rfl) (by kernel_rfl) (by kernel_rfl) (fun _ _ _ h => h) (Or.inl ⟨rfl, ?_⟩) hHeld ?_
  rotate_left
  · (intro wz hSw; (try dsimp only at hSw); have q1 := hSw.2.1.cell 21 _ (A.opnd_b _ _ _ _); have q2 := hSw.2.1.cell 22 _ (A.opnd_nn _ _ _ _); have q3 := hSw.2.1.cell 23 _ (A.opnd_u _ _ _ _); go_simp; try with_reducible rfl)
  try simp only [Act.put, List.setIfInBounds_toArray, List.set_cons_zero, List.set_cons_succ]
  refine wpAnyH_take (i := 4) (oi := { dst := some 7, op := Op.load 24 (Operand.tmp 6), type := 24, pos := "alu.go:76", after := #[eD 3], guard := none }) (v := ?_) rfl (by kernel_rfl) (by kernel_rfl) (by kernel_rfl) (fun _ _ _ h => h) (Or.inl ⟨rfl, ?_⟩) hHeld ?_
  rotate_left
  · (intro wz hSw; (try dsimp only at hSw); have q1 := hSw.2.1.cell 21 _ (A.opnd_b _ _ _ _); have q2 := hSw.2.1.cell 22 _ (A.opnd_nn _ _ _ _); have q3 := hSw.2.1.cell 23 _ (A.opnd_u _ _ _ _); go_simp; try with_reducible rfl)
  try simp only [Act.put, List.setIfInBounds_toArray, List.set_cons_zero, List.set_cons_succ]
  refine wpAnyH_ready (rs := [5]) (by kernel_rfl) (by simp) ?_
  refine AllReadyH.cons (o := { dst := some 8, op := Op.call { callee := Callee.value (Operand.func 70), args := #[Operand.const (Value.int IntKind.i64 3), Operand.tmp 5, Operand.tmp 7], argTypes := #[3, 24, 24] }, type := 24, pos := "alu.go:76", after := #[eD 2, eD 4], guard := none }) rfl (fun K hK => ?_) (AllReadyH.nil)
  go_simp
  go_at_call 70
  refine (shift_any 3 b n h0 h1 h2 h3 _).mono ?_
  rintro e w5 ⟨rfl, rfl⟩
  have hN := (show (fun w' => Kept w w' ∧ Has w.heap.size (A.opnd s b n u) 80 w' ∧ HasN (w.heap.size + 1) 23 77 w') _ from hHeld)
  clear hHeld
  refine hK.out _ _ hN (fun hHeld => ?_)
  clear hK K hN
  try simp only [Act.put, List.setIfInBounds_toArray, List.set_cons_zero, List.set_cons_succ]
  refine wpAnyH_ready (rs := [6]) (by kernel_rfl) (by simp) ?_
  refine AllReadyH.cons (o := { dst := some 9, op := Op.call { callee := Callee.value (Operand.func 51), args := #[Operand.tmp 3, Operand.tmp 8], argTypes := #[80, 24] }, type := 77, pos := "alu.go:76", after := #[eD 0, eD 5, eC 5], guard := none }) rfl (fun K hK => ?_) (AllReadyH.nil)
  go_simp
  go_at_call 51
  refine (just_any _ _ _ _ _ _).mono ?_
  rintro e w5 ⟨rfl, hK5⟩
  have hN := (show (fun w' => Kept w w' ∧ Has w.heap.size (A.opnd s b n u) 80 w' ∧ HasN (w.heap.size + 1) 23 77 w') _ from ⟨hHeld.1.trans hK5, hHeld.2.1.kept hK5, hHeld.2.2.kept hK5⟩)
  clear hHeld
  refine hK.out _ _ hN (fun hHeld => ?_)
  clear hK K hN
  try simp only [Act.put, List.setIfInBounds_toArray, List.set_cons_zero, List.set_cons_succ]
  refine wpAnyH_ready (rs := [7]) (by kernel_rfl) (by simp) ?_
  refine AllReadyH.cons (o := { dst := none, op := Op.store 77 (Operand.tmp 2) (Operand.tmp 9), type := 0, pos := "alu.go:76", after := #[eD 6, eC 6, eP 0, eP 1, eP 2, eP 3, eP 4, eP 5, eP 6], guard := none }) rfl (fun K hK => ?_) (AllReadyH.nil)
  obtain ⟨old, hold, hR⟩ := hHeld.2.2
  refine wp_store_row (o := { dst := none, op := Op.store 77 (Operand.tmp 2) (Operand.tmp 9), type := 0, pos := "alu.go:76", after := #[eD 6, eC 6, eP 0, eP 1, eP 2, eP 3, eP 4, eP 5, eP 6], guard := none }) 77 _ _ rfl _ (A.outc (W.shift 3 b n) s 0) ?_ ?_ 77 old hR (A.infoOut _ _ _) hold (A.one_outc _ _ _) ?_
  · rfl
  · rfl
  have hN := (show (fun w' => Kept w w' ∧ Has w.heap.size (A.opnd s b n u) 80 w' ∧ HasN (w.heap.size + 1) 23 77 w') _ from ⟨hHeld.1.row (by omega) _, hHeld.2.1.rowOther (by omega) _, ⟨(A.outc (W.shift 3 b n) s 0), A.size_outc _ _ _, Has.row hR _⟩⟩)
  clear hHeld
  refine hK.out _ _ hN (fun hHeld => ?_)
  clear hK K hN
  try simp only [Act.put, List.setIfInBounds_toArray, List.set_cons_zero, List.set_cons_succ]
  refine wpAnyH_done (by kernel_rfl) ?_ _
  have hR5 := Has.row hR
  clear hR
  go_wp2_with fail
  exact bodyPost_ret (results_has rfl (w.heap.size + 1) rfl (hR5 _) Try.underlying77 rfl (A.infoOut _ _ _)) rfl ⟨rfl, hHeld.1⟩
set_option maxHeartbeats 1000000 in
theorem add_work (s : A.Regs) (b n : Int) (u : Bool) (h0 : 0 ≤ b) (h1 : b < 4294967296) (h2 : 0 ≤ n) (h3 : n < 4294967296) (w : World) :
    Calls Try.prog 77 #[.agg (A.opnd s b n u)] w fun e w' => e = .returned (.agg (A.outc (W.low (b + n + W.one (u && s.c))) (A.setV (A.setC s (W.over (b + n + W.one (u && s.c)))) (!W.inS (W.sgn b + W.sgn n + W.one (u && s.c)))) 0)) ∧ Kept w w' := by
  have hS0 : (fun w' => Kept w w' ∧ Has w.heap.size (A.opnd s b n u) 80 w' ∧ HasN (w.heap.size + 1) 23 77 w') ((w.alloc (.cells (A.opnd s b n u) 80)).alloc (.cells (A.outc 0 A.none' 0) 77)) := ⟨((Kept.refl w).alloc _ _).alloc _ _, (Has.new _ _ _).alloc _, ⟨_, rfl, Has.new1 _ _ _ _⟩⟩
  have HS0 := Lib.hid hS0
  clear hS0
  go_enter Try.func77, Try.ntmps77
  go_wp2_with fail
  refine wp_region_held_drew (S := fun w' => Kept w w' ∧ Has w.heap.size (A.opnd s b n u) 80 w' ∧ HasN (w.heap.size + 1) 23 77 w') (by kernel_rfl) ?_ (fun hHeld => ?_)
  · exact ⟨HS0.out.1.drew, HS0.out.2.1.drew, HS0.out.2.2⟩
  refine wpAnyH_take (i := 0) (oi := { dst := some 3, op := Op.load 80 (Operand.tmp 1), type := 80, pos := "alu.go:81", after := #[], guard := none }) (v := ?_) rfl (by kernel_rfl) (by kernel_rfl) (by kernel_rfl) (fun _ _ _ h => h) (Or.inl ⟨rfl, ?_⟩) hHeld ?_
  rotate_left
  · (intro wz hSw; refine exec_load_has 80 (Operand.tmp 1) ?_ _ ?_ hSw.2.1 Try.underlying80 rfl (A.infoOp _ _ _ _) <;> rfl)
  try simp only [Act.put, List.setIfInBounds_toArray, List.set_cons_zero, List.set_cons_succ]
  refine wpAnyH_take (i := 1) (oi := { dst := some 4, op := Op.fieldAddr 80 (Operand.tmp 1) 1, type := 0, pos := "alu.go:81", after := #[], guard := none }) (v := ?_) rfl (by kernel_rfl) (by kernel_rfl) (by kernel_rfl) (fun _ _ _ h => h) (Or.inl ⟨rfl, ?_⟩) hHeld ?_
  rotate_left
  · (intro wz hSw; (try dsimp only at hSw); have q1 := hSw.2.1.cell 21 _ (A.opnd_b _ _ _ _); have q2 := hSw.2.1.cell 22 _ (A.opnd_nn _ _ _ _); have q3 := hSw.2.1.cell 23 _ (A.opnd_u _ _ _ _); go_simp; try with_reducible rfl)
  try simp only [Act.put, List.setIfInBounds_toArray, List.set_cons_zero, List.set_cons_succ]
  refine wpAnyH_take (i := 2) (oi := { dst := some 5, op := Op.load 24 (Operand.tmp 4), type := 24, pos := "alu.go:81", after := #[eD 1], guard := none }) (v := ?_) rfl (by kernel_rfl) (by kernel_rfl) (by kernel_rfl) (fun _ _ _ h => h) (Or.inl ⟨rfl, ?_⟩) hHeld ?_
  rotate_left
  · (intro wz hSw; (try dsimp only at hSw); have q1 := hSw.2.1.cell 21 _ (A.opnd_b _ _ _ _); have q2 := hSw.2.1.cell 22 _ (A.opnd_nn _ _ _ _); have q3 := hSw.2.1.cell 23 _ (A.opnd_u _ _ _ _); go_simp; try with_reducible rfl)
  try simp only [Act.put, List.setIfInBounds_toArray, List.set_cons_zero, List.set_cons_succ]
  refine wpAnyH_take (i := 3) (oi := { dst := some 6, op := Op.fieldAddr 80 (Operand.tmp 1) 2, type := 0, pos := "alu.go:81", after := #[], guard := none }) (v := ?_) rfl (by kernel_rfl) (by kernel_rfl) (by kernel_rfl) (fun _ _ _ h => h) (Or.inl ⟨rfl, ?_⟩) hHeld ?_
  rotate_left
  · (intro wz hSw; (try dsimp only at hSw); have q1 := hSw.2.1.cell 21 _ (A.opnd_b _ _ _ _); have q2 := hSw.2.1.cell 22 _ (A.opnd_nn _ _ _ _); have q3 := hSw.2.1.cell 23 _ (A.opnd_u _ _ _ _); go_simp; try with_reducible rfl)
  try simp only [Act.put, List.setIfInBounds_toArray, List.set_cons_zero, List.set_cons_succ]
  refine wpAnyH_take (i := 4) (oi := { dst := some 7, op := Op.load 24 (Operand.tmp 6), type := 24, pos := "alu.go:81", after := #[eD 3], guard := none }) (v := ?_) rfl (by kernel_rfl) (by kernel_rfl) (by kernel_rfl) (fun _ _ _ h => h) (Or.inl ⟨rfl, ?_⟩) hHeld ?_
  rotate_left
  · (intro wz hSw; (try dsimp only at hSw); have q1 := hSw.2.1.cell 21 _ (A.opnd_b _ _ _ _); have q2 := hSw.2.1.cell 22 _ (A.opnd_nn _ _ _ _); have q3 := hSw.2.1.cell 23 _ (A.opnd_u _ _ _ _); go_simp; try with_reducible rfl)
  try simp only [Act.put, List.setIfInBounds_toArray, List.set_cons_zero, List.set_cons_succ]
  refine wpAnyH_take (i := 5) (oi := { dst := some 8, op := Op.load 80 (Operand.tmp 1), type := 80, pos := "alu.go:81", after := #[], guard := none }) (v := ?_) rfl (by kernel_rfl) (by kernel_rfl) (by kernel_rfl) (fun _ _ _ h => h) (Or.inl ⟨rfl, ?_⟩) hHeld ?_
  rotate_left
  · (intro wz hSw; refine exec_load_has 80 (Operand.tmp 1) ?_ _ ?_ hSw.2.1 Try.underlying80 rfl (A.infoOp _ _ _ _) <;> rfl)
  try simp only [Act.put, List.setIfInBounds_toArray, List.set_cons_zero, List.set_cons_succ]
  refine wpAnyH_ready (rs := [6]) (by kernel_rfl) (by simp) ?_
  refine AllReadyH.cons (o := { dst := some 9, op := Op.call { callee := Callee.value (Operand.func 80), args := #[Operand.tmp 8], argTypes := #[80] }, type := 4, pos := "alu.go:81", after := #[eD 5], guard := none }) rfl (fun K hK => ?_) (AllReadyH.nil)
  go_simp
  go_at_call 80
  refine (carry_any _ _ _ _ _).mono ?_
  rintro e w5 ⟨rfl, hK5⟩
  have hN := (show (fun w' => Kept w w' ∧ Has w.heap.size (A.opnd s b n u) 80 w' ∧ HasN (w.heap.size + 1) 23 77 w') _ from ⟨hHeld.1.trans hK5, hHeld.2.1.kept hK5, hHeld.2.2.kept hK5⟩)
  clear hHeld
  refine hK.out _ _ hN (fun hHeld => ?_)
  clear hK K hN
  try simp only [Act.put, List.setIfInBounds_toArray, List.set_cons_zero, List.set_cons_succ]
  refine wpAnyH_ready (rs := [7]) (by kernel_rfl) (by simp) ?_
  refine AllReadyH.cons (o := { dst := some 10, op := Op.call { callee := Callee.value (Operand.func 79), args := #[Operand.tmp 5, Operand.tmp 7, Operand.tmp 9], argTypes := #[24, 24, 4] }, type := 122, pos := "alu.go:81", after := #[eD 2, eD 4, eD 6, eC 6], guard := none }) rfl (fun K hK => ?_) (AllReadyH.nil)
  go_simp
  go_at_call 79
  refine (add_any b n (u && s.c) h0 h1 h2 h3 _).mono ?_
  rintro e w5 ⟨rfl, rfl⟩
  have hN := (show (fun w' => Kept w w' ∧ Has w.heap.size (A.opnd s b n u) 80 w' ∧ HasN (w.heap.size + 1) 23 77 w') _ from hHeld)
  clear hHeld
  refine hK.out _ _ hN (fun hHeld => ?_)
  clear hK K hN
  try simp only [Act.put, List.setIfInBounds_toArray, List.set_cons_zero, List.set_cons_succ]
  refine wpAnyH_take (i := 8) (oi := { dst := some 11, op := Op.extract (Operand.tmp 10) 0, type := 24, pos := "alu.go:81", after := #[eD 7], guard := none }) (v := ?_) rfl (by kernel_rfl) (by kernel_rfl) (by kernel_rfl) (fun _ _ _ h => h) (Or.inl ⟨rfl, ?_⟩) hHeld ?_
  rotate_left
  · (intro wz hSw; (try dsimp only at hSw); have q1 := hSw.2.1.cell 21 _ (A.opnd_b _ _ _ _); have q2 := hSw.2.1.cell 22 _ (A.opnd_nn _ _ _ _); have q3 := hSw.2.1.cell 23 _ (A.opnd_u _ _ _ _); go_simp; try with_reducible rfl)
  try simp only [Act.put, List.setIfInBounds_toArray, List.set_cons_zero, List.set_cons_succ]
  refine wpAnyH_take (i := 9) (oi := { dst := some 12, op := Op.extract (Operand.tmp 10) 1, type := 4, pos := "alu.go:81", after := #[eD 7], guard := none }) (v := ?_) rfl (by kernel_rfl) (by kernel_rfl) (by kernel_rfl) (fun _ _ _ h => h) (Or.inl ⟨rfl, ?_⟩) hHeld ?_
  rotate_left
  · (intro wz hSw; (try dsimp only at hSw); have q1 := hSw.2.1.cell 21 _ (A.opnd_b _ _ _ _); have q2 := hSw.2.1.cell 22 _ (A.opnd_nn _ _ _ _); have q3 := hSw.2.1.cell 23 _ (A.opnd_u _ _ _ _); go_simp; try with_reducible rfl)
  try simp only [Act.put, List.setIfInBounds_toArray, List.set_cons_zero, List.set_cons_succ]
  refine wpAnyH_take (i := 10) (oi := { dst := some 13, op := Op.extract (Operand.tmp 10) 2, type := 4, pos := "alu.go:81", after := #[eD 7], guard := none }) (v := ?_) rfl (by kernel_rfl) (by kernel_rfl) (by kernel_rfl) (fun _ _ _ h => h) (Or.inl ⟨rfl, ?_⟩) hHeld ?_
  rotate_left
  · (intro wz hSw; (try dsimp only at hSw); have q1 := hSw.2.1.cell 21 _ (A.opnd_b _ _ _ _); have q2 := hSw.2.1.cell 22 _ (A.opnd_nn _ _ _ _); have q3 := hSw.2.1.cell 23 _ (A.opnd_u _ _ _ _); go_simp; try with_reducible rfl)
  try simp only [Act.put, List.setIfInBounds_toArray, List.set_cons_zero, List.set_cons_succ]
  refine wpAnyH_ready (rs := [11]) (by kernel_rfl) (by simp) ?_
  refine AllReadyH.cons (o := { dst := some 14, op := Op.call { callee := Callee.value (Operand.func 78), args := #[Operand.tmp 3, Operand.tmp 11, Operand.tmp 12, Operand.tmp 13], argTypes := #[80, 24, 4, 4] }, type := 77, pos := "alu.go:81", after := #[eD 0, eD 8, eD 9, eD 10, eC 7], guard := none }) rfl (fun K hK => ?_) (AllReadyH.nil)
  go_simp
  go_at_call 78
  refine (withFlags_any _ _ _ _ _ _ _ _).mono ?_
  rintro e w5 ⟨rfl, hK5⟩
  have hN := (show (fun w' => Kept w w' ∧ Has w.heap.size (A.opnd s b n u) 80 w' ∧ HasN (w.heap.size + 1) 23 77 w') _ from ⟨hHeld.1.trans hK5, hHeld.2.1.kept hK5, hHeld.2.2.kept hK5⟩)
  clear hHeld
  refine hK.out _ _ hN (fun hHeld => ?_)
  clear hK K hN
  try simp only [Act.put, List.setIfInBounds_toArray, List.set_cons_zero, List.set_cons_succ]
  refine wpAnyH_ready (rs := [12]) (by kernel_rfl) (by simp) ?_
  refine AllReadyH.cons (o := { dst := none, op := Op.store 77 (Operand.tmp 2) (Operand.tmp 14), type := 0, pos := "alu.go:81", after := #[eD 11, eC 11, eP 0, eP 1, eP 2, eP 3, eP 4, eP 5, eP 6, eP 7, eP 8, eP 9, eP 10, eP 11], guard := none }) rfl (fun K hK => ?_) (AllReadyH.nil)
  obtain ⟨old, hold, hR⟩ := hHeld.2.2
  refine wp_store_row (o := { dst := none, op := Op.store 77 (Operand.tmp 2) (Operand.tmp 14), type := 0, pos := "alu.go:81", after := #[eD 11, eC 11, eP 0, eP 1, eP 2, eP 3, eP 4, eP 5, eP 6, eP 7, eP 8, eP 9, eP 10, eP 11], guard := none }) 77 _ _ rfl _ (A.outc (W.low (b + n + W.one (u && s.c))) (A.setV (A.setC s (W.over (b + n + W.one (u && s.c)))) (!W.inS (W.sgn b + W.sgn n + W.one (u && s.c)))) 0) ?_ ?_ 77 old hR (A.infoOut _ _ _) hold (A.one_outc _ _ _) ?_
  · rfl
  · rfl
  have hN := (show (fun w' => Kept w w' ∧ Has w.heap.size (A.opnd s b n u) 80 w' ∧ HasN (w.heap.size + 1) 23 77 w') _ from ⟨hHeld.1.row (by omega) _, hHeld.2.1.rowOther (by omega) _, ⟨(A.outc (W.low (b + n + W.one (u && s.c))) (A.setV (A.setC s (W.over (b + n + W.one (u && s.c)))) (!W.inS (W.sgn b + W.sgn n + W.one (u && s.c)))) 0), A.size_outc _ _ _, Has.row hR _⟩⟩)
  clear hHeld
  refine hK.out _ _ hN (fun hHeld => ?_)
  clear hK K hN
  try simp only [Act.put, List.setIfInBounds_toArray, List.set_cons_zero, List.set_cons_succ]
  refine wpAnyH_done (by kernel_rfl) ?_ _
  have hR5 := Has.row hR
  clear hR
  go_wp2_with fail
  exact bodyPost_ret (results_has rfl (w.heap.size + 1) rfl (hR5 _) Try.underlying77 rfl (A.infoOut _ _ _)) rfl ⟨rfl, hHeld.1⟩
set_option maxHeartbeats 1000000 in
theorem sub_work (s : A.Regs) (b n : Int) (u : Bool) (h0 : 0 ≤ b) (h1 : b < 4294967296) (h2 : 0 ≤ n) (h3 : n < 4294967296) (w : World) :
    Calls Try.prog 81 #[.agg (A.opnd s b n u)] w fun e w' => e = .returned (.agg (A.outc (W.low (b - n - W.one (u && s.c))) (A.setV (A.setC s (W.neg (b - n - W.one (u && s.c)))) (!W.inS (W.sgn b - W.sgn n - W.one (u && s.c)))) 0)) ∧ Kept w w' := by
  have hS0 : (fun w' => Kept w w' ∧ Has w.heap.size (A.opnd s b n u) 80 w' ∧ HasN (w.heap.size + 1) 23 77 w') ((w.alloc (.cells (A.opnd s b n u) 80)).alloc (.cells (A.outc 0 A.none' 0) 77)) := ⟨((Kept.refl w).alloc _ _).alloc _ _, (Has.new _ _ _).alloc _, ⟨_, rfl, Has.new1 _ _ _ _⟩⟩
  have HS0 := Lib.hid hS0
  clear hS0
  go_enter Try.func81, Try.ntmps81
  go_wp2_with fail
  refine wp_region_held_drew (S := fun w' => Kept w w' ∧ Has w.heap.size (A.opnd s b n u) 80 w' ∧ HasN (w.heap.size + 1) 23 77 w') (by kernel_rfl) ?_ (fun hHeld => ?_)
  · exact ⟨HS0.out.1.drew, HS0.out.2.1.drew, HS0.out.2.2⟩
  refine wpAnyH_take (i := 0) (oi := { dst := some 3, op := Op.load 80 (Operand.tmp 1), type := 80, pos := "alu.go:82", after := #[], guard := none }) (v := ?_) rfl (by kernel_rfl) (by kernel_rfl) (by kernel_rfl) (fun _ _ _ h => h) (Or.inl ⟨rfl, ?_⟩) hHeld ?_
  rotate_left
  · (intro wz hSw; refine exec_load_has 80 (Operand.tmp 1) ?_ _ ?_ hSw.2.1 Try.underlying80 rfl (A.infoOp _ _ _ _) <;> rfl)
  try simp only [Act.put, List.setIfInBounds_toArray, List.set_cons_zero, List.set_cons_succ]
  refine wpAnyH_take (i := 1) (oi := { dst := some 4, op := Op.fieldAddr 80 (Operand.tmp 1) 1, type := 0, pos := "alu.go:82", after := #[], guard := none }) (v := ?_) rfl (by kernel_rfl) (by kernel_rfl) (by kernel_rfl) (fun _ _ _ h => h) (Or.inl ⟨rfl, ?_⟩) hHeld ?_
  rotate_left
  · (intro wz hSw; (try dsimp only at hSw); have q1 := hSw.2.1.cell 21 _ (A.opnd_b _ _ _ _); have q2 := hSw.2.1.cell 22 _ (A.opnd_nn _ _ _ _); have q3 := hSw.2.1.cell 23 _ (A.opnd_u _ _ _ _); go_simp; try with_reducible rfl)
  try simp only [Act.put, List.setIfInBounds_toArray, List.set_cons_zero, List.set_cons_succ]
  refine wpAnyH_take (i := 2) (oi := { dst := some 5, op := Op.load 24 (Operand.tmp 4), type := 24, pos := "alu.go:82", after := #[eD 1], guard := none }) (v := ?_) rfl (by kernel_rfl) (by kernel_rfl) (by kernel_rfl) (fun _ _ _ h => h) (Or.inl ⟨rfl, ?_⟩) hHeld ?_
  rotate_left
  · (intro wz hSw; (try dsimp only at hSw); have q1 := hSw.2.1.cell 21 _ (A.opnd_b _ _ _ _); have q2 := hSw.2.1.cell 22 _ (A.opnd_nn _ _ _ _); have q3 := hSw.2.1.cell 23 _ (A.opnd_u _ _ _ _); go_simp; try with_reducible rfl)
  try simp only [Act.put, List.setIfInBounds_toArray, List.set_cons_zero, List.set_cons_succ]
  refine wpAnyH_take (i := 3) (oi := { dst := some 6, op := Op.fieldAddr 80 (Operand.tmp 1) 2, type := 0, pos := "alu.go:82", after := #[], guard := none }) (v := ?_) rfl (by kernel_rfl) (by kernel_rfl) (by kernel_rfl) (fun _ _ _ h => h) (Or.inl ⟨rfl, ?_⟩) hHeld ?_
  rotate_left
  · (intro wz hSw; (try dsimp only at hSw); have q1 := hSw.2.1.cell 21 _ (A.opnd_b _ _ _ _); have q2 := hSw.2.1.cell 22 _ (A.opnd_nn _ _ _ _); have q3 := hSw.2.1.cell 23 _ (A.opnd_u _ _ _ _); go_simp; try with_reducible rfl)
  try simp only [Act.put, List.setIfInBounds_toArray, List.set_cons_zero, List.set_cons_succ]
  refine wpAnyH_take (i := 4) (oi := { dst := some 7, op := Op.load 24 (Operand.tmp 6), type := 24, pos := "alu.go:82", after := #[eD 3], guard := none }) (v := ?_) rfl (by kernel_rfl) (by kernel_rfl) (by kernel_rfl) (fun _ _ _ h => h) (Or.inl ⟨rfl, ?_⟩) hHeld ?_
  rotate_left
  · (intro wz hSw; (try dsimp only at hSw); have q1 := hSw.2.1.cell 21 _ (A.opnd_b _ _ _ _); have q2 := hSw.2.1.cell 22 _ (A.opnd_nn _ _ _ _); have q3 := hSw.2.1.cell 23 _ (A.opnd_u _ _ _ _); go_simp; try with_reducible rfl)
  try simp only [Act.put, List.setIfInBounds_toArray, List.set_cons_zero, List.set_cons_succ]
  refine wpAnyH_take (i := 5) (oi := { dst := some 8, op := Op.load 80 (Operand.tmp 1), type := 80, pos := "alu.go:82", after := #[], guard := none }) (v := ?_) rfl (by kernel_rfl) (by kernel_rfl) (by kernel_rfl) (fun _ _ _ h => h) (Or.inl ⟨rfl, ?_⟩) hHeld ?_
  rotate_left
  · (intro wz hSw; refine exec_load_has 80 (Operand.tmp 1) ?_ _ ?_ hSw.2.1 Try.underlying80 rfl (A.infoOp _ _ _ _) <;> rfl)
  try simp only [Act.put, List.setIfInBounds_toArray, List.set_cons_zero, List.set_cons_succ]
  refine wpAnyH_ready (rs := [6]) (by kernel_rfl) (by simp) ?_
  refine AllReadyH.cons (o := { dst := some 9, op := Op.call { callee := Callee.value (Operand.func 80), args := #[Operand.tmp 8], argTypes := #[80] }, type := 4, pos := "alu.go:82", after := #[eD 5], guard := none }) rfl (fun K hK => ?_) (AllReadyH.nil)
  go_simp
  go_at_call 80
  refine (carry_any _ _ _ _ _).mono ?_
  rintro e w5 ⟨rfl, hK5⟩
  have hN := (show (fun w' => Kept w w' ∧ Has w.heap.size (A.opnd s b n u) 80 w' ∧ HasN (w.heap.size + 1) 23 77 w') _ from ⟨hHeld.1.trans hK5, hHeld.2.1.kept hK5, hHeld.2.2.kept hK5⟩)
  clear hHeld
  refine hK.out _ _ hN (fun hHeld => ?_)
  clear hK K hN
  try simp only [Act.put, List.setIfInBounds_toArray, List.set_cons_zero, List.set_cons_succ]
  refine wpAnyH_ready (rs := [7]) (by kernel_rfl) (by simp) ?_
  refine AllReadyH.cons (o := { dst := some 10, op := Op.call { callee := Callee.value (Operand.func 82), args := #[Operand.tmp 5, Operand.tmp 7, Operand.tmp 9], argTypes := #[24, 24, 4] }, type := 122, pos := "alu.go:82", after := #[eD 2, eD 4, eD 6, eC 6], guard := none }) rfl (fun K hK => ?_) (AllReadyH.nil)
  go_simp
  go_at_call 82
  refine (sub_any b n (u && s.c) h0 h1 h2 h3 _).mono ?_
  rintro e w5 ⟨rfl, rfl⟩
  have hN := (show (fun w' => Kept w w' ∧ Has w.heap.size (A.opnd s b n u) 80 w' ∧ HasN (w.heap.size + 1) 23 77 w') _ from hHeld)
  clear hHeld
  refine hK.out _ _ hN (fun hHeld => ?_)
  clear hK K hN
  try simp only [Act.put, List.setIfInBounds_toArray, List.set_cons_zero, List.set_cons_succ]
  refine wpAnyH_take (i := 8) (oi := { dst := some 11, op := Op.extract (Operand.tmp 10) 0, type := 24, pos := "alu.go:82", after := #[eD 7], guard := none }) (v := ?_) rfl (by kernel_rfl) (by kernel_rfl) (by kernel_rfl) (fun _ _ _ h => h) (Or.inl ⟨rfl, ?_⟩) hHeld ?_
  rotate_left
  · (intro wz hSw; (try dsimp only at hSw); have q1 := hSw.2.1.cell 21 _ (A.opnd_b _ _ _ _); have q2 := hSw.2.1.cell 22 _ (A.opnd_nn _ _ _ _); have q3 := hSw.2.1.cell 23 _ (A.opnd_u _ _ _ _); go_simp; try with_reducible rfl)
  try simp only [Act.put, List.setIfInBounds_toArray, List.set_cons_zero, List.set_cons_succ]
  refine wpAnyH_take (i := 9) (oi := { dst := some 12, op := Op.extract (Operand.tmp 10) 1, type := 4, pos := "alu.go:82", after := #[eD 7], guard := none }) (v := ?_) rfl (by kernel_rfl) (by kernel_rfl) (by kernel_rfl) (fun _ _ _ h => h) (Or.inl ⟨rfl, ?_⟩) hHeld ?_
  rotate_left
  · (intro wz hSw; (try dsimp only at hSw); have q1 := hSw.2.1.cell 21 _ (A.opnd_b _ _ _ _); have q2 := hSw.2.1.cell 22 _ (A.opnd_nn _ _ _ _); have q3 := hSw.2.1.cell 23 _ (A.opnd_u _ _ _ _); go_simp; try with_reducible rfl)
  try simp only [Act.put, List.setIfInBounds_toArray, List.set_cons_zero, List.set_cons_succ]
  refine wpAnyH_take (i := 10) (oi := { dst := some 13, op := Op.extract (Operand.tmp 10) 2, type := 4, pos := "alu.go:82", after := #[eD 7], guard := none }) (v := ?_) rfl (by kernel_rfl) (by kernel_rfl) (by kernel_rfl) (fun _ _ _ h => h) (Or.inl ⟨rfl, ?_⟩) hHeld ?_
  rotate_left
  · (intro wz hSw; (try dsimp only at hSw); have q1 := hSw.2.1.cell 21 _ (A.opnd_b _ _ _ _); have q2 := hSw.2.1.cell 22 _ (A.opnd_nn _ _ _ _); have q3 := hSw.2.1.cell 23 _ (A.opnd_u _ _ _ _); go_simp; try with_reducible rfl)
  try simp only [Act.put, List.setIfInBounds_toArray, List.set_cons_zero, List.set_cons_succ]
  refine wpAnyH_ready (rs := [11]) (by kernel_rfl) (by simp) ?_
  refine AllReadyH.cons (o := { dst := some 14, op := Op.call { callee := Callee.value (Operand.func 78), args := #[Operand.tmp 3, Operand.tmp 11, Operand.tmp 12, Operand.tmp 13], argTypes := #[80, 24, 4, 4] }, type := 77, pos := "alu.go:82", after := #[eD 0, eD 8, eD 9, eD 10, eC 7], guard := none }) rfl (fun K hK => ?_) (AllReadyH.nil)
  go_simp
  go_at_call 78
  refine (withFlags_any _ _ _ _ _ _ _ _).mono ?_
  rintro e w5 ⟨rfl, hK5⟩
  have hN := (show (fun w' => Kept w w' ∧ Has w.heap.size (A.opnd s b n u) 80 w' ∧ HasN (w.heap.size + 1) 23 77 w') _ from ⟨hHeld.1.trans hK5, hHeld.2.1.kept hK5, hHeld.2.2.kept hK5⟩)
  clear hHeld
  refine hK.out _ _ hN (fun hHeld => ?_)
  clear hK K hN
  try simp only [Act.put, List.setIfInBounds_toArray, List.set_cons_zero, List.set_cons_succ]
  refine wpAnyH_ready (rs := [12]) (by kernel_rfl) (by simp) ?_
  refine AllReadyH.cons (o := { dst := none, op := Op.store 77 (Operand.tmp 2) (Operand.tmp 14), type := 0, pos := "alu.go:82", after := #[eD 11, eC 11, eP 0, eP 1, eP 2, eP 3, eP 4, eP 5, eP 6, eP 7, eP 8, eP 9, eP 10, eP 11], guard := none }) rfl (fun K hK => ?_) (AllReadyH.nil)
  obtain ⟨old, hold, hR⟩ := hHeld.2.2
  refine wp_store_row (o := { dst := none, op := Op.store 77 (Operand.tmp 2) (Operand.tmp 14), type := 0, pos := "alu.go:82", after := #[eD 11, eC 11, eP 0, eP 1, eP 2, eP 3, eP 4, eP 5, eP 6, eP 7, eP 8, eP 9, eP 10, eP 11], guard := none }) 77 _ _ rfl _ (A.outc (W.low (b - n - W.one (u && s.c))) (A.setV (A.setC s (W.neg (b - n - W.one (u && s.c)))) (!W.inS (W.sgn b - W.sgn n - W.one (u && s.c)))) 0) ?_ ?_ 77 old hR (A.infoOut _ _ _) hold (A.one_outc _ _ _) ?_
  · rfl
  · rfl
  have hN := (show (fun w' => Kept w w' ∧ Has w.heap.size (A.opnd s b n u) 80 w' ∧ HasN (w.heap.size + 1) 23 77 w') _ from ⟨hHeld.1.row (by omega) _, hHeld.2.1.rowOther (by omega) _, ⟨(A.outc (W.low (b - n - W.one (u && s.c))) (A.setV (A.setC s (W.neg (b - n - W.one (u && s.c)))) (!W.inS (W.sgn b - W.sgn n - W.one (u && s.c)))) 0), A.size_outc _ _ _, Has.row hR _⟩⟩)
  clear hHeld
  refine hK.out _ _ hN (fun hHeld => ?_)
  clear hK K hN
  try simp only [Act.put, List.setIfInBounds_toArray, List.set_cons_zero, List.set_cons_succ]
  refine wpAnyH_done (by kernel_rfl) ?_ _
  have hR5 := Has.row hR
  clear hR
  go_wp2_with fail
  exact bodyPost_ret (results_has rfl (w.heap.size + 1) rfl (hR5 _) Try.underlying77 rfl (A.infoOut _ _ _)) rfl ⟨rfl, hHeld.1⟩
set_option maxHeartbeats 1000000 in
theorem mul_work (s : A.Regs) (b n : Int) (u : Bool) (h0 : 0 ≤ b) (h1 : b < 4294967296) (h2 : 0 ≤ n) (h3 : n < 4294967296) (w : World) :
    Calls Try.prog 83 #[.agg (A.opnd s b n u)] w fun e w' => e = .returned (.agg (A.outc (W.low (W.prod u b n)) (A.setH s (W.low (W.prod u b n / 4294967296))) 0)) ∧ Kept w w' := by
  have hS0 : (fun w' => Kept w w' ∧ Has w.heap.size (A.opnd s b n u) 80 w' ∧ HasN (w.heap.size + 1) 23 77 w') ((w.alloc (.cells (A.opnd s b n u) 80)).alloc (.cells (A.outc 0 A.none' 0) 77)) := ⟨((Kept.refl w).alloc _ _).alloc _ _, (Has.new _ _ _).alloc _, ⟨_, rfl, Has.new1 _ _ _ _⟩⟩
  have HS0 := Lib.hid hS0
  clear hS0
  go_enter Try.func83, Try.ntmps83
  go_wp2_with fail
  refine wp_region_held_drew (S := fun w' => Kept w w' ∧ Has w.heap.size (A.opnd s b n u) 80 w' ∧ HasN (w.heap.size + 1) 23 77 w') (by kernel_rfl) ?_ (fun hHeld => ?_)
  · exact ⟨HS0.out.1.drew, HS0.out.2.1.drew, HS0.out.2.2⟩
  refine wpAnyH_take (i := 0) (oi := { dst := some 3, op := Op.load 80 (Operand.tmp 1), type := 80, pos := "alu.go:83", after := #[], guard := none }) (v := ?_) rfl (by kernel_rfl) (by kernel_rfl) (by kernel_rfl) (fun _ _ _ h => h) (Or.inl ⟨rfl, ?_⟩) hHeld ?_
  rotate_left
  · (intro wz hSw; refine exec_load_has 80 (Operand.tmp 1) ?_ _ ?_ hSw.2.1 Try.underlying80 rfl (A.infoOp _ _ _ _) <;> rfl)
  try simp only [Act.put, List.setIfInBounds_toArray, List.set_cons_zero, List.set_cons_succ]
  refine wpAnyH_take (i := 1) (oi := { dst := some 4, op := Op.fieldAddr 80 (Operand.tmp 1) 1, type := 0, pos := "alu.go:83", after := #[], guard := none }) (v := ?_) rfl (by kernel_rfl) (by kernel_rfl) (by kernel_rfl) (fun _ _ _ h => h) (Or.inl ⟨rfl, ?_⟩) hHeld ?_
  rotate_left
  · (intro wz hSw; (try dsimp only at hSw); have q1 := hSw.2.1.cell 21 _ (A.opnd_b _ _ _ _); have q2 := hSw.2.1.cell 22 _ (A.opnd_nn _ _ _ _); have q3 := hSw.2.1.cell 23 _ (A.opnd_u _ _ _ _); go_simp; try with_reducible rfl)
  try simp only [Act.put, List.setIfInBounds_toArray, List.set_cons_zero, List.set_cons_succ]
  refine wpAnyH_take (i := 2) (oi := { dst := some 5, op := Op.load 24 (Operand.tmp 4), type := 24, pos := "alu.go:83", after := #[eD 1], guard := none }) (v := ?_) rfl (by kernel_rfl) (by kernel_rfl) (by kernel_rfl) (fun _ _ _ h => h) (Or.inl ⟨rfl, ?_⟩) hHeld ?_
  rotate_left
  · (intro wz hSw; (try dsimp only at hSw); have q1 := hSw.2.1.cell 21 _ (A.opnd_b _ _ _ _); have q2 := hSw.2.1.cell 22 _ (A.opnd_nn _ _ _ _); have q3 := hSw.2.1.cell 23 _ (A.opnd_u _ _ _ _); go_simp; try with_reducible rfl)
  try simp only [Act.put, List.setIfInBounds_toArray, List.set_cons_zero, List.set_cons_succ]
  refine wpAnyH_take (i := 3) (oi := { dst := some 6, op := Op.fieldAddr 80 (Operand.tmp 1) 2, type := 0, pos := "alu.go:83", after := #[], guard := none }) (v := ?_) rfl (by kernel_rfl) (by kernel_rfl) (by kernel_rfl) (fun _ _ _ h => h) (Or.inl ⟨rfl, ?_⟩) hHeld ?_
  rotate_left
  · (intro wz hSw; (try dsimp only at hSw); have q1 := hSw.2.1.cell 21 _ (A.opnd_b _ _ _ _); have q2 := hSw.2.1.cell 22 _ (A.opnd_nn _ _ _ _); have q3 := hSw.2.1.cell 23 _ (A.opnd_u _ _ _ _); go_simp; try with_reducible rfl)
  try simp only [Act.put, List.setIfInBounds_toArray, List.set_cons_zero, List.set_cons_succ]
  refine wpAnyH_take (i := 4) (oi := { dst := some 7, op := Op.load 24 (Operand.tmp 6), type := 24, pos := "alu.go:83", after := #[eD 3], guard := none }) (v := ?_) rfl (by kernel_rfl) (by kernel_rfl) (by kernel_rfl) (fun _ _ _ h => h) (Or.inl ⟨rfl, ?_⟩) hHeld ?_
  rotate_left
  · (intro wz hSw; (try dsimp only at hSw); have q1 := hSw.2.1.cell 21 _ (A.opnd_b _ _ _ _); have q2 := hSw.2.1.cell 22 _ (A.opnd_nn _ _ _ _); have q3 := hSw.2.1.cell 23 _ (A.opnd_u _ _ _ _); go_simp; try with_reducible rfl)
  try simp only [Act.put, List.setIfInBounds_toArray, List.set_cons_zero, List.set_cons_succ]
  refine wpAnyH_take (i := 5) (oi := { dst := some 8, op := Op.fieldAddr 80 (Operand.tmp 1) 3, type := 0, pos := "alu.go:83", after := #[], guard := none }) (v := ?_) rfl (by kernel_rfl) (by kernel_rfl) (by kernel_rfl) (fun _ _ _ h => h) (Or.inl ⟨rfl, ?_⟩) hHeld ?_
  rotate_left
  · (intro wz hSw; (try dsimp only at hSw); have q1 := hSw.2.1.cell 21 _ (A.opnd_b _ _ _ _); have q2 := hSw.2.1.cell 22 _ (A.opnd_nn _ _ _ _); have q3 := hSw.2.1.cell 23 _ (A.opnd_u _ _ _ _); go_simp; try with_reducible rfl)
  try simp only [Act.put, List.setIfInBounds_toArray, List.set_cons_zero, List.set_cons_succ]
  refine wpAnyH_take (i := 6) (oi := { dst := some 9, op := Op.load 4 (Operand.tmp 8), type := 4, pos := "alu.go:83", after := #[eD 5], guard := none }) (v := ?_) rfl (by kernel_rfl) (by kernel_rfl) (by kernel_rfl) (fun _ _ _ h => h) (Or.inl ⟨rfl, ?_⟩) hHeld ?_
  rotate_left
  · (intro wz hSw; (try dsimp only at hSw); have q1 := hSw.2.1.cell 21 _ (A.opnd_b _ _ _ _); have q2 := hSw.2.1.cell 22 _ (A.opnd_nn _ _ _ _); have q3 := hSw.2.1.cell 23 _ (A.opnd_u _ _ _ _); go_simp; try with_reducible rfl)
  try simp only [Act.put, List.setIfInBounds_toArray, List.set_cons_zero, List.set_cons_succ]
  refine wpAnyH_ready (rs := [7]) (by kernel_rfl) (by simp) ?_
  refine AllReadyH.cons (o := { dst := some 10, op := Op.call { callee := Callee.value (Operand.func 85), args := #[Operand.tmp 5, Operand.tmp 7, Operand.tmp 9], argTypes := #[24, 24, 4] }, type := 125, pos := "alu.go:83", after := #[eD 2, eD 4, eD 6], guard := none }) rfl (fun K hK => ?_) (AllReadyH.nil)
  go_simp
  go_at_call 85
  refine (mul_any b n u h0 h1 h2 h3 _).mono ?_
  rintro e w5 ⟨rfl, rfl⟩
  have hN := (show (fun w' => Kept w w' ∧ Has w.heap.size (A.opnd s b n u) 80 w' ∧ HasN (w.heap.size + 1) 23 77 w') _ from hHeld)
  clear hHeld
  refine hK.out _ _ hN (fun hHeld => ?_)
  clear hK K hN
  try simp only [Act.put, List.setIfInBounds_toArray, List.set_cons_zero, List.set_cons_succ]
  refine wpAnyH_take (i := 8) (oi := { dst := some 11, op := Op.extract (Operand.tmp 10) 0, type := 24, pos := "alu.go:83", after := #[eD 7], guard := none }) (v := ?_) rfl (by kernel_rfl) (by kernel_rfl) (by kernel_rfl) (fun _ _ _ h => h) (Or.inl ⟨rfl, ?_⟩) hHeld ?_
  rotate_left
  · (intro wz hSw; (try dsimp only at hSw); have q1 := hSw.2.1.cell 21 _ (A.opnd_b _ _ _ _); have q2 := hSw.2.1.cell 22 _ (A.opnd_nn _ _ _ _); have q3 := hSw.2.1.cell 23 _ (A.opnd_u _ _ _ _); go_simp; try with_reducible rfl)
  try simp only [Act.put, List.setIfInBounds_toArray, List.set_cons_zero, List.set_cons_succ]
  refine wpAnyH_take (i := 9) (oi := { dst := some 12, op := Op.extract (Operand.tmp 10) 1, type := 24, pos := "alu.go:83", after := #[eD 7], guard := none }) (v := ?_) rfl (by kernel_rfl) (by kernel_rfl) (by kernel_rfl) (fun _ _ _ h => h) (Or.inl ⟨rfl, ?_⟩) hHeld ?_
  rotate_left
  · (intro wz hSw; (try dsimp only at hSw); have q1 := hSw.2.1.cell 21 _ (A.opnd_b _ _ _ _); have q2 := hSw.2.1.cell 22 _ (A.opnd_nn _ _ _ _); have q3 := hSw.2.1.cell 23 _ (A.opnd_u _ _ _ _); go_simp; try with_reducible rfl)
  try simp only [Act.put, List.setIfInBounds_toArray, List.set_cons_zero, List.set_cons_succ]
  refine wpAnyH_ready (rs := [10]) (by kernel_rfl) (by simp) ?_
  refine AllReadyH.cons (o := { dst := some 13, op := Op.call { callee := Callee.value (Operand.func 84), args := #[Operand.tmp 3, Operand.tmp 11, Operand.tmp 12], argTypes := #[80, 24, 24] }, type := 77, pos := "alu.go:83", after := #[eD 0, eD 8, eD 9, eC 7], guard := none }) rfl (fun K hK => ?_) (AllReadyH.nil)
  go_simp
  go_at_call 84
  refine (withHigh_any _ _ _ _ _ _ _).mono ?_
  rintro e w5 ⟨rfl, hK5⟩
  have hN := (show (fun w' => Kept w w' ∧ Has w.heap.size (A.opnd s b n u) 80 w' ∧ HasN (w.heap.size + 1) 23 77 w') _ from ⟨hHeld.1.trans hK5, hHeld.2.1.kept hK5, hHeld.2.2.kept hK5⟩)
  clear hHeld
  refine hK.out _ _ hN (fun hHeld => ?_)
  clear hK K hN
  try simp only [Act.put, List.setIfInBounds_toArray, List.set_cons_zero, List.set_cons_succ]
  refine wpAnyH_ready (rs := [11]) (by kernel_rfl) (by simp) ?_
  refine AllReadyH.cons (o := { dst := none, op := Op.store 77 (Operand.tmp 2) (Operand.tmp 13), type := 0, pos := "alu.go:83", after := #[eD 10, eC 10, eP 0, eP 1, eP 2, eP 3, eP 4, eP 5, eP 6, eP 7, eP 8, eP 9, eP 10], guard := none }) rfl (fun K hK => ?_) (AllReadyH.nil)
  obtain ⟨old, hold, hR⟩ := hHeld.2.2
  refine wp_store_row (o := { dst := none, op := Op.store 77 (Operand.tmp 2) (Operand.tmp 13), type := 0, pos := "alu.go:83", after := #[eD 10, eC 10, eP 0, eP 1, eP 2, eP 3, eP 4, eP 5, eP 6, eP 7, eP 8, eP 9, eP 10], guard := none }) 77 _ _ rfl _ (A.outc (W.low (W.prod u b n)) (A.setH s (W.low (W.prod u b n / 4294967296))) 0) ?_ ?_ 77 old hR (A.infoOut _ _ _) hold (A.one_outc _ _ _) ?_
  · rfl
  · rfl
  have hN := (show (fun w' => Kept w w' ∧ Has w.heap.size (A.opnd s b n u) 80 w' ∧ HasN (w.heap.size + 1) 23 77 w') _ from ⟨hHeld.1.row (by omega) _, hHeld.2.1.rowOther (by omega) _, ⟨(A.outc (W.low (W.prod u b n)) (A.setH s (W.low (W.prod u b n / 4294967296))) 0), A.size_outc _ _ _, Has.row hR _⟩⟩)
  clear hHeld
  refine hK.out _ _ hN (fun hHeld => ?_)
  clear hK K hN
  try simp only [Act.put, List.setIfInBounds_toArray, List.set_cons_zero, List.set_cons_succ]
  refine wpAnyH_done (by kernel_rfl) ?_ _
  have hR5 := Has.row hR
  clear hR
  go_wp2_with fail
  exact bodyPost_ret (results_has rfl (w.heap.size + 1) rfl (hR5 _) Try.underlying77 rfl (A.infoOut _ _ _)) rfl ⟨rfl, hHeld.1⟩
end Go.Proofs.Ytlmddkciamdldaa

/-
  The contracts of divide and flags of package alu.
-/
namespace Go.Proofs.Ytlmddkciamdldaa
open Go.RowKit
set_option linter.unusedVariables false
set_option linter.unusedSimpArgs false
set_option maxRecDepth 100000
theorem A.builtTrap : Try.prog.built 77 [(2, .int .i64 5)] = some (A.outc 0 A.none' 5) := by
  rw [built_of A.shapeOut]
  simp [Instr.fill, Value.cells, A.none', A.outc]
theorem divide_no (s : A.Regs) (b n : Int) (u : Bool) (h0 : 0 ≤ b) (h1 : b < 4294967296) (h2 : 0 ≤ n) (h3 : n < 4294967296) (hn : W.sgn n ≤ 0) (w : World) :
    Calls Try.prog 86 #[.agg (A.opnd s b n u)] w fun e w' => e = .returned (.agg (A.outc 0 A.none' 5)) ∧ Kept w w' := by
  go_enter Try.func86, Try.ntmps86
  go_wp2_with (first
    | ((with_reducible refine build_has (o := ⟨some 17, _, _, _, _, _⟩) rfl 77 _ rfl (A.outc 0 A.none' 5) ?hf17 ?_); (case hf17 => (go_simp; exact A.builtTrap)))
    | (with_reducible refine store_last (o := ⟨none, Op.store 77 _ _, _, _, _, _⟩) rfl 77 _ _ rfl _ _ rfl rfl (by simp) (A.infoOut _ _ _) (by kernel_rfl) (A.one_outc _ _ _) ?_)
    | (go_at_call 94; refine (div_no b n h0 h1 h2 h3 hn _).mono ?_; rintro e w2 ⟨rfl, rfl⟩))
  exact bodyPost_ret (results_has rfl (w.heap.size + 1) rfl (Has.new1 _ _ _ _) Try.underlying77 rfl (A.infoOut _ _ _)) rfl ⟨rfl, ((Kept.refl w).alloc _ _).alloc _ _⟩
theorem divide_yes (s : A.Regs) (b n : Int) (u : Bool) (h0 : 0 ≤ b) (h1 : b < 4294967296) (h2 : 0 ≤ n) (h3 : n < 4294967296) (hn : 0 < W.sgn n) (w : World) :
    Calls Try.prog 86 #[.agg (A.opnd s b n u)] w fun e w' => e = .returned (.agg (A.outc (W.low (W.sgn b / W.sgn n)) (A.setH s (W.low (W.sgn b % W.sgn n))) 0)) ∧ Kept w w' := by
  go_enter Try.func86, Try.ntmps86
  go_wp2_with (first
    | (with_reducible refine load_has (o := ⟨some 18, _, _, _, _, _⟩) rfl 80 _ rfl _ rfl ((Has.new _ _ _).alloc _).drew Try.underlying80 rfl (A.infoOp _ _ _ _) ?_)
    | (with_reducible refine store_has (o := ⟨none, Op.store 77 _ _, _, _, _, _⟩) rfl 77 _ _ rfl _ _ rfl rfl (by assumption) (A.infoOut _ _ _) (by kernel_rfl) (A.one_outc _ _ _) ?_)
    | (go_at_call 94; refine (div_yes b n h0 h1 h2 h3 hn _).mono ?_; rintro e w2 ⟨rfl, rfl⟩)
    | (go_at_call 84; (refine (withHigh_any _ _ _ _ _ _ _).mono ?_; rintro e w2 ⟨rfl, hK2⟩); (have hX := (Has.new1 _ _ _ _).drew.kept hK2); (have hK := ((((Kept.refl w).alloc _ _).alloc _ _).drew).trans hK2); clear hK2))
  exact bodyPost_ret (results_has rfl (w.heap.size + 1) rfl (hX.row _) Try.underlying77 rfl (A.infoOut _ _ _)) rfl ⟨rfl, hK.row (by omega) _⟩
/-- the flags, the first k of them -/
def A.fl (s : A.Regs) : Nat → Int
  | 0 => 0
  | 1 => if s.n then 2147483648 else 0
  | 2 => (if s.n then 2147483648 else 0) + (if s.z then 1073741824 else 0)
  | 3 => (if s.n then 2147483648 else 0) + (if s.z then 1073741824 else 0) + (if s.c then 536870912 else 0)
  | _ => (if s.n then 2147483648 else 0) + (if s.z then 1073741824 else 0) + (if s.c then 536870912 else 0) + (if s.v then 268435456 else 0)
def A.flg (s : A.Regs) : Int := A.fl s 4
theorem A.fl_lo (s : A.Regs) (k : Nat) : 0 ≤ A.fl s k := by
  unfold A.fl; split <;> (repeat' split) <;> omega
theorem A.fl_hi (s : A.Regs) (k : Nat) : A.fl s k < 4294967296 := by
  unfold A.fl; split <;> (repeat' split) <;> omega
theorem A.or0 (s : A.Regs) (h : s.n = true) : bits BinOp.or IntKind.u32 (A.fl s 0) 2147483648 = A.fl s 1 := by
  obtain ⟨r, h', n, z, c, v⟩ := s
  cases n <;> cases z <;> cases c <;> cases v <;> first | (simp at h; done) | (simp only [A.fl, if_true, Bool.false_eq_true, if_false]; decide)
theorem A.no0 (s : A.Regs) (h : s.n = false) : A.fl s 0 = A.fl s 1 := by
  obtain ⟨r, h', n, z, c, v⟩ := s
  cases n <;> cases z <;> cases c <;> cases v <;> first | (simp at h; done) | rfl
theorem A.or1 (s : A.Regs) (h : s.z = true) : bits BinOp.or IntKind.u32 (A.fl s 1) 1073741824 = A.fl s 2 := by
  obtain ⟨r, h', n, z, c, v⟩ := s
  cases n <;> cases z <;> cases c <;> cases v <;> first | (simp at h; done) | (simp only [A.fl, if_true, Bool.false_eq_true, if_false]; decide)
theorem A.no1 (s : A.Regs) (h : s.z = false) : A.fl s 1 = A.fl s 2 := by
  obtain ⟨r, h', n, z, c, v⟩ := s
  cases n <;> cases z <;> cases c <;> cases v <;> first | (simp at h; done) | rfl
theorem A.or2 (s : A.Regs) (h : s.c = true) : bits BinOp.or IntKind.u32 (A.fl s 2) 536870912 = A.fl s 3 := by
  obtain ⟨r, h', n, z, c, v⟩ := s
  cases n <;> cases z <;> cases c <;> cases v <;> first | (simp at h; done) | (simp only [A.fl, if_true, Bool.false_eq_true, if_false]; decide)
theorem A.no2 (s : A.Regs) (h : s.c = false) : A.fl s 2 = A.fl s 3 := by
  obtain ⟨r, h', n, z, c, v⟩ := s
  cases n <;> cases z <;> cases c <;> cases v <;> first | (simp at h; done) | rfl
theorem A.or3 (s : A.Regs) (h : s.v = true) : bits BinOp.or IntKind.u32 (A.fl s 3) 268435456 = A.fl s 4 := by
  obtain ⟨r, h', n, z, c, v⟩ := s
  cases n <;> cases z <;> cases c <;> cases v <;> first | (simp at h; done) | (simp only [A.fl, if_true, Bool.false_eq_true, if_false]; decide)
theorem A.no3 (s : A.Regs) (h : s.v = false) : A.fl s 3 = A.fl s 4 := by
  obtain ⟨r, h', n, z, c, v⟩ := s
  cases n <;> cases z <;> cases c <;> cases v <;> first | (simp at h; done) | rfl
def A.FlRel (s : A.Regs) (x i : Value) : Prop := (i = .int .i64 0 ∧ x = .int .u32 (A.fl s 0)) ∨ (i = .int .i64 1 ∧ x = .int .u32 (A.fl s 1)) ∨ (i = .int .i64 2 ∧ x = .int .u32 (A.fl s 2)) ∨ (i = .int .i64 3 ∧ x = .int .u32 (A.fl s 3)) ∨ (i = .int .i64 4 ∧ x = .int .u32 (A.fl s 4))
theorem A.at0 (p q r t : Value) : (#[p, q, r, t] : Array Value)[Int.toNat 0]? = some p := rfl
theorem A.at1 (p q r t : Value) : (#[p, q, r, t] : Array Value)[Int.toNat 1]? = some q := rfl
theorem A.at2 (p q r t : Value) : (#[p, q, r, t] : Array Value)[Int.toNat 2]? = some r := rfl
theorem A.at3 (p q r t : Value) : (#[p, q, r, t] : Array Value)[Int.toNat 3]? = some t := rfl
set_option maxHeartbeats 2000000 in
theorem flags_any (s : A.Regs) (b n : Int) (u : Bool) (w : World) :
    Calls Try.prog 41 #[.agg (A.opnd s b n u)] w fun e w' => e = .returned (.agg (A.outc (A.flg s) s 0)) ∧ Kept w w' := by
  have l0 := A.fl_lo s 0
  have l1 := A.fl_lo s 1
  have l2 := A.fl_lo s 2
  have l3 := A.fl_lo s 3
  have g0 := A.fl_hi s 0
  have g1 := A.fl_hi s 1
  have g2 := A.fl_hi s 2
  have g3 := A.fl_hi s 3
  have e0 := Lib.hid (A.or0 s)
  have e1 := Lib.hid (A.or1 s)
  have e2 := Lib.hid (A.or2 s)
  have e3 := Lib.hid (A.or3 s)
  have d0 := Lib.hid (A.no0 s)
  have d1 := Lib.hid (A.no1 s)
  have d2 := Lib.hid (A.no2 s)
  have d3 := Lib.hid (A.no3 s)
  go_enter Try.func41, Try.ntmps41
  go_wp2_with fail
  go_loop [3, 19] (fun x i => A.FlRel s x i) (fun _ i => 4 - (intOf i).toNat)
  case atStart => exact Or.inl ⟨rfl, rfl⟩
  case round =>
    rcases hrel with ⟨rfl, rfl⟩ | ⟨rfl, rfl⟩ | ⟨rfl, rfl⟩ | ⟨rfl, rfl⟩ | ⟨rfl, rfl⟩
    · by_cases hb : s.n = true
      · have E := Lib.hid (e0.out hb)
        go_wp2_with (first | (with_reducible refine index_cell (o := ⟨some 22, _, _, _, _, _⟩) rfl 105 _ _ rfl _ _ _ rfl rfl Try.underlying105 (by decide) (by decide) Try.underlying4 rfl (by kernel_rfl) (A.at0 _ _ _ _) ?_))
        go_round
        case rel => exact ⟨_, _, _, _, Or.inr (Or.inl ⟨rfl, rfl⟩), by rw [E.out], rfl, rfl, rfl⟩
        case measure => simp [intOf]
      · have hb' : s.n = false := by simpa using hb
        have E := Lib.hid (d0.out hb')
        clear hb
        go_wp2_with (first | (with_reducible refine index_cell (o := ⟨some 22, _, _, _, _, _⟩) rfl 105 _ _ rfl _ _ _ rfl rfl Try.underlying105 (by decide) (by decide) Try.underlying4 rfl (by kernel_rfl) (A.at0 _ _ _ _) ?_))
        go_round
        case rel => exact ⟨_, _, _, _, Or.inr (Or.inl ⟨rfl, rfl⟩), by rw [E.out], rfl, rfl, rfl⟩
        case measure => simp [intOf]
    · by_cases hb : s.z = true
      · have E := Lib.hid (e1.out hb)
        go_wp2_with (first | (with_reducible refine index_cell (o := ⟨some 22, _, _, _, _, _⟩) rfl 105 _ _ rfl _ _ _ rfl rfl Try.underlying105 (by decide) (by decide) Try.underlying4 rfl (by kernel_rfl) (A.at1 _ _ _ _) ?_))
        go_round
        case rel => exact ⟨_, _, _, _, Or.inr (Or.inr (Or.inl ⟨rfl, rfl⟩)), by rw [E.out], rfl, rfl, rfl⟩
        case measure => simp [intOf]
      · have hb' : s.z = false := by simpa using hb
        have E := Lib.hid (d1.out hb')
        clear hb
        go_wp2_with (first | (with_reducible refine index_cell (o := ⟨some 22, _, _, _, _, _⟩) rfl 105 _ _ rfl _ _ _ rfl rfl Try.underlying105 (by decide) (by decide) Try.underlying4 rfl (by kernel_rfl) (A.at1 _ _ _ _) ?_))
        go_round
        case rel => exact ⟨_, _, _, _, Or.inr (Or.inr (Or.inl ⟨rfl, rfl⟩)), by rw [E.out], rfl, rfl, rfl⟩
        case measure => simp [intOf]
    · by_cases hb : s.c = true
      · have E := Lib.hid (e2.out hb)
        go_wp2_with (first | (with_reducible refine index_cell (o := ⟨some 22, _, _, _, _, _⟩) rfl 105 _ _ rfl _ _ _ rfl rfl Try.underlying105 (by decide) (by decide) Try.underlying4 rfl (by kernel_rfl) (A.at2 _ _ _ _) ?_))
        go_round
        case rel => exact ⟨_, _, _, _, Or.inr (Or.inr (Or.inr (Or.inl ⟨rfl, rfl⟩))), by rw [E.out], rfl, rfl, rfl⟩
        case measure => simp [intOf]
      · have hb' : s.c = false := by simpa using hb
        have E := Lib.hid (d2.out hb')
        clear hb
        go_wp2_with (first | (with_reducible refine index_cell (o := ⟨some 22, _, _, _, _, _⟩) rfl 105 _ _ rfl _ _ _ rfl rfl Try.underlying105 (by decide) (by decide) Try.underlying4 rfl (by kernel_rfl) (A.at2 _ _ _ _) ?_))
        go_round
        case rel => exact ⟨_, _, _, _, Or.inr (Or.inr (Or.inr (Or.inl ⟨rfl, rfl⟩))), by rw [E.out], rfl, rfl, rfl⟩
        case measure => simp [intOf]
    · by_cases hb : s.v = true
      · have E := Lib.hid (e3.out hb)
        go_wp2_with (first | (with_reducible refine index_cell (o := ⟨some 22, _, _, _, _, _⟩) rfl 105 _ _ rfl _ _ _ rfl rfl Try.underlying105 (by decide) (by decide) Try.underlying4 rfl (by kernel_rfl) (A.at3 _ _ _ _) ?_))
        go_round
        case rel => exact ⟨_, _, _, _, Or.inr (Or.inr (Or.inr (Or.inr ⟨rfl, rfl⟩))), by rw [E.out], rfl, rfl, rfl⟩
        case measure => simp [intOf]
      · have hb' : s.v = false := by simpa using hb
        have E := Lib.hid (d3.out hb')
        clear hb
        go_wp2_with (first | (with_reducible refine index_cell (o := ⟨some 22, _, _, _, _, _⟩) rfl 105 _ _ rfl _ _ _ rfl rfl Try.underlying105 (by decide) (by decide) Try.underlying4 rfl (by kernel_rfl) (A.at3 _ _ _ _) ?_))
        go_round
        case rel => exact ⟨_, _, _, _, Or.inr (Or.inr (Or.inr (Or.inr ⟨rfl, rfl⟩))), by rw [E.out], rfl, rfl, rfl⟩
        case measure => simp [intOf]
    · go_wp2_with (first
        | (with_reducible refine load_has (o := ⟨some 30, _, _, _, _, _⟩) rfl 80 _ rfl _ rfl ((Has.new _ _ _).alloc _) Try.underlying80 rfl (A.infoOp _ _ _ _) ?_)
        | (with_reducible refine store_has (o := ⟨none, Op.store 77 _ _, _, _, _, _⟩) rfl 77 _ _ rfl _ _ rfl rfl (by assumption) (A.infoOut _ _ _) (by kernel_rfl) (A.one_outc _ _ _) ?_)
        | (go_at_call 51; (refine (just_any _ _ _ _ _ _).mono ?_; rintro e w2 ⟨rfl, hK2⟩); (have hX := (Has.new1 _ _ _ _).kept hK2); (have hK := (((Kept.refl w).alloc _ _).alloc _ _).trans hK2); clear hK2))
      exact bodyPost_ret (results_has rfl (w.heap.size + 1) rfl (hX.row _) Try.underlying77 rfl (A.infoOut _ _ _)) rfl ⟨rfl, hK.row (by omega) _⟩
end Go.Proofs.Ytlmddkciamdldaa
