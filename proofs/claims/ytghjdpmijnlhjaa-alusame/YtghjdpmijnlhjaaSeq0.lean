/-
  A region that draws its order, taken in the order of its text: what is to be checked of the order stands in theorems of its own, over a named list of operations. No Go text is named here.
-/
import Derived.Test.YtghjdpmijnlhjaaKit0
import Derived.OrdersHeld
import Derived.Deep.RegionHeld3
namespace Go.Proofs.Ytghjdpmijnlhjaa
open Go.RowKit
set_option linter.unusedVariables false
set_option linter.unusedSimpArgs false
/-- the first k of n have come up -/
def LS (n k : Nat) : Array Bool := ((List.range n).map fun j => decide (j < k)).toArray
theorem LS_zero (n : Nat) : Array.replicate n false = LS n 0 := by
  apply Array.ext
  · simp [LS]
  · intro i h1 h2
    simp [LS]
theorem LS_set (n k : Nat) : (LS n k).setIfInBounds k true = LS n (k + 1) := by
  apply Array.ext
  · simp [LS]
  · intro i h1 h2
    rw [Array.getElem_setIfInBounds]
    · split
      · simp [LS]; omega
      · simp [LS]; omega
    · simpa [LS] using h1
section
variable {P : Program} {Q : Exit → Act → World → Prop} {S : World → Prop}
/-- the order of the text is one that may be, from k on, m operations -/
def Goes (ops : Array Oper) (n k m : Nat) : Bool := (List.range m).all fun j => Region.free .any ops (LS n (k + j)) (k + j) && (Region.ready .any ops (LS n (k + j))).contains (k + j)
theorem goes_at {ops : Array Oper} {n k m : Nat} (h : Goes ops n k m = true) (i : Nat) (h1 : k ≤ i) (h2 : i < k + m) : Region.free .any ops (LS n i) i = true ∧ (Region.ready .any ops (LS n i)).contains i = true := by
  unfold Goes at h
  rw [List.all_eq_true] at h
  have := h (i - k) (by simp; omega)
  rw [Bool.and_eq_true] at this
  rwa [show k + (i - k) = i by omega] at this
theorem seq_start {ops : Array Oper} {id n : Nat} {a : Act} {w : World} (hn : ops.size = n) (hm : P.follows .mixedOrders = true) (hS : S w.drew)
    (h : S w.drew → wpAnyH P .any ops Q S n (LS n 0) a w.drew) : (Code.region id ops true).wp P Q a w :=
  wp_region_held_drew hm hS (fun hs => by rw [hn, LS_zero]; exact h hs)
theorem seq_take {ops : Array Oper} {n k m : Nat} (i : Nat) {oi : Oper} {v : Value} {fuel : Nat} {a : Act} {w : World} (hi : ops[i]? = some oi) (hs : Region.noSelect ops = true) (hg : Goes ops n k m = true) (h1 : k ≤ i) (h2 : i < k + m)
    (hQ : ∀ c a w, Q (.panic c) (a.put oi.dst v) w → Q (.panic c) a w) (hy : YieldsIf P ops S oi v a) (hS : S w)
    (h : wpAnyH P .any ops Q S fuel (LS n (i + 1)) (a.put oi.dst v) w) : wpAnyH P .any ops Q S (fuel + 1) (LS n i) a w :=
  wpAnyH_take hi hs (goes_at hg i h1 h2).1 (goes_at hg i h1 h2).2 hQ hy hS (by rw [LS_set]; exact h)
end
end Go.Proofs.Ytghjdpmijnlhjaa
