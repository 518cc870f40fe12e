/-
  The contracts of the small functions of package le and of the document's: letters, digits, registers, names.
-/
import Derived.Test.YtpbgniffjlcbhaaDoorRows
import Derived.Test.YtpbgniffjlcbhaaDoorLeP
import Derived.WalkKit
import Derived.WalkSpells
import Derived.WalkLawsBesides
import Derived.Lib.Hide
import Derived.Deep.Cut
import Derived.BigQuiet
import Derived.LoopTactic
namespace Go.Proofs.YtpbgniffjlcbhaaDoor
open Go.RowKit
set_option linter.unusedVariables false
set_option linter.unusedSimpArgs false
set_option maxRecDepth 100000
/-- the byte at k, as the walk spells it -/
theorem L.at_of {s : ByteArray} {k : Nat} {x : Int} (h : (L.bs s)[k]? = some x) : ∃ hk : k < s.size, ((s[k]'hk).toNat : Int) = x := by
  have hk : k < (L.bs s).length := by
    rcases Nat.lt_or_ge k (L.bs s).length with h1 | h1
    · exact h1
    · rw [List.getElem?_eq_none h1] at h; cases h
  have hk2 : k < s.size := by rw [← L.bs_len]; exact hk
  refine ⟨hk2, ?_⟩
  rw [L.bs_at s k hk2]
  rw [List.getElem?_eq_getElem hk] at h
  exact Option.some.inj h
theorem L.reg_no {xs : List Int} (h : xs.length < 2 ∨ 3 < xs.length ∨ xs.getD 0 0 ≠ 82) : L.reg xs = false := by
  unfold L.reg
  rcases h with h | h | h
  · rw [decide_eq_false (by omega)]; rfl
  · rw [decide_eq_false (by omega)]; rfl
  · rw [decide_eq_false h]; simp
theorem L.reg_yes {xs : List Int} (h1 : 2 ≤ xs.length) (h2 : xs.length ≤ 3) (h3 : xs.getD 0 0 = 82) : L.reg xs = (xs.drop 1).all L.digit := by
  unfold L.reg
  rw [decide_eq_true (by omega), decide_eq_true h3]; rfl
theorem all_step {p : Int → Bool} {xs : List Int} {k : Nat} {x : Int} (h : (xs.take k).all p = true) (hx : xs[k]? = some x) (hp : p x = true) : (xs.take (k + 1)).all p = true := by
  rw [List.take_add_one, hx, List.all_append, h]
  simp [hp]
theorem all_not {p : Int → Bool} {xs : List Int} {k : Nat} {x : Int} (hx : xs[k]? = some x) (hp : p x = false) : xs.all p = false := by
  rw [List.all_eq_false]
  exact ⟨x, List.mem_of_getElem? hx, by simp [hp]⟩
theorem L.name_no {xs : List Int} (h : xs.length < 1 ∨ 12 < xs.length ∨ L.letter (xs.getD 0 0) = false ∨ L.reg xs = true ∨ xs.all L.part = false) : L.name xs = false := by
  unfold L.name
  rcases h with h | h | h | h | h
  · rw [decide_eq_false (by omega)]; rfl
  · rw [decide_eq_false (by omega)]; rfl
  · rw [h]; simp
  · rw [h]; simp
  · rw [h]; simp
theorem L.name_yes {xs : List Int} (h1 : 1 ≤ xs.length) (h2 : xs.length ≤ 12) (h3 : L.letter (xs.getD 0 0) = true) (h4 : L.reg xs = false) : L.name xs = xs.all L.part := by
  unfold L.name
  rw [decide_eq_true (by omega), h3, h4]; rfl
theorem L.part_of {y : Int} (h : L.letter y = true ∨ L.digit y = true ∨ y = 95) : L.part y = true := by
  unfold L.part
  rcases h with h | h | h <;> simp [h]
theorem L.part_not {y : Int} (h1 : L.letter y = false) (h2 : L.digit y = false) (h3 : ¬ y = 95) : L.part y = false := by
  unfold L.part
  simp [h1, h2, h3]
end Go.Proofs.YtpbgniffjlcbhaaDoor
