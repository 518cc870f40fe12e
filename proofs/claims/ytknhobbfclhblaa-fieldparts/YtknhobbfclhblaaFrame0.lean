/-
  Arrays of whole numbers, by value, as arguments: opened to a list of numbers, and shut again. No Go text is named here.
-/
import Derived.ChangeSame
import Derived.WideShapes
import Derived.OpenShut
import Derived.RowKit
namespace Go.Proofs.Ytknhobbfclhblaa
open Go.ChangeShapes Go.WideShapes
set_option linter.unusedVariables false
section
variable {H : Type} {enc : TypeId × Value → H} {P : Program} {w : World} {base : Nat} {spare : Nat → Bool} {held : Bool}

theorem mapM_range {α β : Type} (f : List α → Option β) : ∀ (cs : List α), (List.range cs.length).mapM (fun i => f ((cs.drop i).take 1)) = cs.mapM (fun c => f [c])
  | [] => rfl
  | c :: cs => by
    rw [List.length_cons, List.range_succ_eq_map, List.mapM_cons, List.mapM_cons, List.mapM_map, ← mapM_range f cs]
    rfl
theorem mapM_ints {kd : IntKind} {e : TypeId} {m : Nat} (he : P.underlying e = some (.int kd)) : ∀ (cs : List Value) (ys : List (DataW H × List MemPlace)),
    cs.mapM (fun c => DataW.trod enc P w base spare held m e [c]) = some ys →
    ∃ xs : List Int, cs = xs.map (Value.int kd) ∧ ys = xs.map (fun x => (.lit (.int kd x), [])) ∧ ∀ x ∈ xs, (Lit.int kd x).wf = true
  | [], ys, h => by
    simp at h; subst h; exact ⟨[], rfl, rfl, fun x hx => by cases hx⟩
  | c :: cs, ys, h => by
    rw [List.mapM_cons] at h
    simp only [bind, Option.bind_eq_some_iff, pure, Option.some.injEq] at h
    obtain ⟨y, hy, ys', hys, rfl⟩ := h
    obtain ⟨xs, rfl, rfl, hw⟩ := mapM_ints he cs ys' hys
    obtain ⟨a, ea, rfl, wa⟩ := DataW.trod_int he hy
    simp at ea; subst ea
    exact ⟨a :: xs, rfl, rfl, fun x hx => by rcases List.mem_cons.1 hx with rfl | hx; exact wa; exact hw x hx⟩
theorem mapM_ints_mk {kd : IntKind} {e : TypeId} {m : Nat} (he : P.underlying e = some (.int kd)) : ∀ (xs : List Int), (∀ x ∈ xs, (Lit.int kd x).wf = true) →
    (xs.map (Value.int kd)).mapM (fun c => DataW.trod enc P w base spare held (m + 1) e [c]) = some (xs.map (fun x => (DataW.lit (H := H) (.int kd x), [])))
  | [], _ => rfl
  | x :: xs, h => by
    rw [List.map_cons, List.mapM_cons, mapM_ints_mk he xs (fun y hy => h y (List.mem_cons_of_mem _ hy))]
    have := h x List.mem_cons_self
    simp [DataW.trod, he, this]
/-- an array of whole numbers, opened -/
theorem open_ints {r : Reach} {b0 : Nat} {t e : TypeId} {n : Nat} {kd : IntKind} {v : Value} {d : DataW H} {p : List MemPlace} (ht : P.underlying t = some (.array n e)) (he : P.underlying e = some (.int kd)) (hce : P.cellsOf e = 1) (hC : P.cellsOf t = n)
    (hv : Value.okWide P w r b0 t v) (h : DataW.Trod enc P w base spare held t v d p) :
    ∃ xs : List Int, xs.length = n ∧ v = .agg (xs.map (Value.int kd)).toArray ∧ d = .agg (xs.map fun x => .lit (.int kd x)) ∧ p = [] ∧ ∀ x ∈ xs, (Lit.int kd x).wf = true := by
  simp only [Value.okWide, ht] at hv
  obtain ⟨cs, rfl, hsz, _⟩ := hv
  obtain ⟨fuel, hf⟩ := h
  cases fuel with
  | zero => simp [DataW.trod] at hf
  | succ m =>
    rw [DataW.trod_step] at hf
    unfold DataW.trodStep at hf
    simp only [ht, Value.cells, hce, Nat.mul_one] at hf
    rw [if_pos (by simpa using hsz)] at hf
    simp only [Option.map_eq_some_iff] at hf
    obtain ⟨ys, hy, e1⟩ := hf
    have hl : cs.toList.length = n := by rw [← hC, ← hsz]; simp
    rw [← hl, mapM_range (DataW.trod enc P w base spare held m e)] at hy
    obtain ⟨xs, hx, rfl, hw⟩ := mapM_ints he _ _ hy
    simp only [Prod.mk.injEq] at e1
    refine ⟨xs, ?_, ?_, ?_, ?_, hw⟩
    · rw [← hl, hx]; simp
    · rw [← hx]
    · rw [← e1.1]; simp [Function.comp_def]
    · rw [← e1.2]; simp [List.flatMap_eq_nil_iff]
/-- an array of whole numbers, shut -/
theorem shut_ints {t e : TypeId} {n : Nat} {kd : IntKind} (ht : P.underlying t = some (.array n e)) (he : P.underlying e = some (.int kd)) (hce : P.cellsOf e = 1) (hC : P.cellsOf t = n)
    (xs : List Int) (hn : xs.length = n) (hw : ∀ x ∈ xs, (Lit.int kd x).wf = true) :
    DataW.Trod enc P w base spare held t (.agg (xs.map (Value.int kd)).toArray) (.agg (xs.map fun x => .lit (.int kd x))) [] := by
  refine ⟨2, ?_⟩
  rw [DataW.trod_step]
  unfold DataW.trodStep
  simp only [ht, Value.cells, hce, Nat.mul_one]
  rw [if_pos (by simp [hC, hn])]
  have hl : (xs.map (Value.int kd)).length = n := by simp [hn]
  rw [← hl, mapM_range (DataW.trod enc P w base spare held 1 e), mapM_ints_mk he xs hw]
  simp [Function.comp_def, List.flatMap_eq_nil_iff]
theorem list1 {α : Type} {xs : List α} (h : xs.length = 1) : ∃ a, xs = [a] := by
  match xs, h with
  | [a], _ => exact ⟨a, rfl⟩
theorem list2 {α : Type} {xs : List α} (h : xs.length = 2) : ∃ a b, xs = [a, b] := by
  match xs, h with
  | [a, b], _ => exact ⟨a, b, rfl⟩
theorem list3 {α : Type} {xs : List α} (h : xs.length = 3) : ∃ a b c, xs = [a, b, c] := by
  match xs, h with
  | [a, b, c], _ => exact ⟨a, b, c, rfl⟩
theorem list4 {α : Type} {xs : List α} (h : xs.length = 4) : ∃ a b c d, xs = [a, b, c, d] := by
  match xs, h with
  | [a, b, c, d], _ => exact ⟨a, b, c, d, rfl⟩
end
end Go.Proofs.Ytknhobbfclhblaa
