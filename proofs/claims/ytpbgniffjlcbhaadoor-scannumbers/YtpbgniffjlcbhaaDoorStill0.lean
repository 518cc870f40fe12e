/-
  A region that draws its order, whose operations but for a tail only read, behind a wall through which no tactic looks: an operation is taken, or passed over where its guard says no. No Go text is named here.
-/
import Derived.StillTailTactics
namespace Go.Proofs.YtpbgniffjlcbhaaDoor
set_option linter.unusedVariables false
section
variable {P : Program} {ops : Array Oper} {w : World} {Q : Act → Prop} {a : Act} {o : Oper} {rest : List Oper}
structure WS (P : Program) (ops : Array Oper) (w : World) (Q : Act → Prop) (l : List Oper) (a : Act) : Prop where
  out : wpStill P ops w Q l a
theorem WS.skip (hw : Region.wanted o (yielded ops a.tmps) = false) (h : WS P ops w Q rest (a.put o.dst undef)) : WS P ops w Q (o :: rest) a := by
  constructor
  unfold wpStill
  rw [if_neg (by rw [hw]; decide)]
  exact h.out
theorem WS.want (hw : Region.wanted o (yielded ops a.tmps) = true) (h : ∀ K : Act → Prop, (∀ a, WS P ops w Q rest a → K a) → o.still P a w K) : WS P ops w Q (o :: rest) a := by
  constructor
  unfold wpStill
  rw [if_pos hw]
  exact Oper.still_mono (fun _ h => h.out) (h (WS P ops w Q rest) (fun _ h => h))
theorem WS.step (hg : o.guard = none) (h : ∀ K : Act → Prop, (∀ a, WS P ops w Q rest a → K a) → o.still P a w K) : WS P ops w Q (o :: rest) a :=
  WS.want (by simp [Region.wanted, hg]) h
theorem WS.nil (h : Q a) : WS P ops w Q [] a := ⟨h⟩
theorem WS.start {id : Nat} {Q : Exit → Act → World → Prop} {a : Act} {w : World} {l : List Oper} (n : Nat) (hm : P.follows .mixedOrders = true) (hB : Region.lexTailB .any l.toArray n = true)
    (h : ∀ w', w' = w.drew → WS P l.toArray w' (fun a' => wpList P l.toArray Q (l.drop n) a' w') (l.take n) a) : (Code.region id l.toArray true).wp P Q a w :=
  wp_region_still_tail n hm hB (h _ rfl).out
end
end Go.Proofs.YtpbgniffjlcbhaaDoor
