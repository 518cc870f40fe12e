/-
  The contracts of Put and Take of package le and of the document's; of the small functions that the laws call: few, fewOf, Same.
-/
import Derived.Test.YtpbgniffjlcbhaaDoorLe1
import Derived.StillTailTactics
namespace Go.Proofs.YtpbgniffjlcbhaaDoor
open Go.RowKit
set_option linter.unusedVariables false
set_option linter.unusedSimpArgs false
set_option maxRecDepth 100000
theorem L.info8 : (Tryd.prog.info? 5).map (fun i => (i.zero, i.size, i.bytes)) = some (some (.int .u8 0), 1, 1) := by kernel_rfl
theorem L.info32 : (Tryd.prog.info? 32).map (fun i => (i.zero, i.size, i.bytes)) = some (some (.int .u32 0), 1, 4) := by kernel_rfl
theorem take_step {xs ys : List Int} {k : Nat} {p : Int} (h : xs.take k = ys.take k) (hx : xs[k]? = some p) (hy : ys[k]? = some p) : xs.take (k + 1) = ys.take (k + 1) := by
  rw [List.take_add_one, List.take_add_one, h, hx, hy]
theorem take_apart {xs ys : List Int} {k : Nat} {p q : Int} (hx : xs[k]? = some p) (hy : ys[k]? = some q) (hpq : p ≠ q) : xs ≠ ys := by
  intro e
  rw [e, hy] at hx
  cases hx
  exact hpq rfl
theorem made_at (z : Value) (n j : Nat) (hj : j < n) : (madeCells #[z] n)[j]? = some z := by
  unfold madeCells
  simp [hj, Nat.mod_one]
theorem Ow.made (e : TypeId) (k : IntKind) (w : World) (m : Nat) (hm : m ≤ maxLen) : Ow e k w.heap.size w.heap.size 0 m [] (w.alloc (.cells (madeCells #[.int k 0] m) e)) :=
  Ow.mk' (Nat.le_refl _) (Nat.zero_le _) hm rfl _ (heap_alloc_last _ _) (by simp [size_madeCells]) rfl
theorem Ow.full (e : TypeId) (k : IntKind) (w : World) (m : Nat) (hm : m ≤ maxLen) : Ow e k w.heap.size w.heap.size m m (List.replicate m 0) (w.alloc (.cells (madeCells #[.int k 0] m) e)) := by
  refine Ow.mk' (Nat.le_refl _) (Nat.le_refl _) hm (by simp) _ (heap_alloc_last _ _) (by simp [size_madeCells]) ?_
  apply List.ext_getElem
  · simp [size_madeCells]
  · intro i h1 h2
    have := made_at (.int k 0) m i (by simpa using h2)
    rw [Array.getElem?_eq_getElem (by simp [size_madeCells]; simpa using h2)] at this
    simp only [List.getElem_take, Array.getElem_toList, List.getElem_map, List.getElem_replicate]
    exact Option.some.inj this
theorem Rw.one {k : IntKind} {L : Int} {w : World} {g : Nat} {x : Int} {t : TypeId} (h : Has g #[.int k x] t w) (h0 : 0 ≤ x) (h1 : x < L) : Rw k L w (some ⟨g, 0, none⟩) 1 1 [x] :=
  ⟨rfl, Nat.le_refl _, by simp [maxLen], by simp, by simpa using ⟨h0, h1⟩, fun ad e j y hy => by
    cases e
    match j, hy with
    | 0, hy => simp at hy; subst hy; exact h.cell 0 _ rfl⟩
theorem L.four_at (x : Int) (j : Nat) (hj : j < 4) : (L.four x)[j]? = some (x / 2 ^ (8 * j) % 256) := by
  match j, hj with
  | 0, _ => simp [L.four]
  | 1, _ => rfl
  | 2, _ => rfl
  | 3, _ => rfl
theorem L.four_step (x : Int) (j : Nat) (hj : j < 4) : (L.four x).take j ++ [x / 2 ^ (8 * j) % 256] = (L.four x).take (j + 1) := by
  rw [List.take_add_one, L.four_at x j hj]; rfl
theorem L.four_all (x : Int) : (L.four x).take 4 = L.four x := rfl
end Go.Proofs.YtpbgniffjlcbhaaDoor
