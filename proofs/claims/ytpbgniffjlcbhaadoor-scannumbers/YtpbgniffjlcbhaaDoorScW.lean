/-
  Tokens appended behind a guard.
-/
import Derived.Test.YtpbgniffjlcbhaaDoorScS
namespace Go.Proofs.YtpbgniffjlcbhaaDoor
open Go.RowKit
set_option linter.unusedVariables false
set_option linter.unusedSimpArgs false
set_option maxRecDepth 100000
section
variable {P : Program} {ops : Array Oper} {rest : List Oper} {o : Oper} {a : Act} {Q : Exit → Act → World → Prop} {w : World}
/-- as append_tr, where the operation is guarded and wanted -/
theorem append_trW {e t : TypeId} {z : Value} {by0 : Nat} (hu : P.underlying t = some (.slice e)) (hinf : (P.info? e).map (fun i => (i.zero, i.size, i.bytes)) = some (some z, 4, by0)) (hz2 : z.cells.size = 4) (hby : by0 ≤ 100)
    (hw : Region.wanted o (yielded ops a.tmps) = true) (s x : Operand)
    (ho : o.op = .call { callee := .builtin .append, args := #[s, x], argTypes := #[t, t] }) (base : Nat) (A : Option Addr) (n cap : Nat) (xs : List Sc.Tk) (hs : a.eval s = .slice A n cap) (hown : Oz e base A n cap xs w)
    (B : Option Addr) (m c : Nat) (ys : List Sc.Tk) (hx : a.eval x = .slice B m c) (hY : Tr w B m c ys) (hb : n + m ≤ 1000000000000) (hbase : base ≤ w.heap.size) (hne : A ≠ none)
    (h : ∀ g' cap' w', Oz e base (some ⟨g', 0, none⟩) (n + m) cap' (xs ++ ys) w' → w.grownBy w' (Value.slice A n cap).ownBlock → wpList P ops Q rest (a.put o.dst (.slice (some ⟨g', 0, none⟩) (n + m) cap')) w') : wpList P ops Q (o :: rest) a w :=
  BigFrame.wpList_want hw fun K hK => by
  obtain ⟨i0, hi, hz0, hz1, hz2'⟩ := info_parts hinf
  cases B with
  | none =>
    have hc := hY.nil rfl
    have hm : m = 0 := by have := hY.le; omega
    subst hc hm
    have hy : ys = [] := List.eq_nil_of_length_eq_zero hY.len
    subst hy
    rcases hown.cases with ⟨rfl, _⟩ | ⟨g, rfl, _⟩
    · exact absurd rfl hne
    · have hrun := run_append_owned_none (P := P) (w := w) base t o.type e i0 4 hu hi _ n _ hown
      have hh := h g cap w (by rw [Nat.add_zero, List.append_nil]; exact hown) ⟨rfl, rfl, rfl, Nat.le_refl _, fun _ _ _ => rfl⟩
      unfold Oper.wp
      simp [execOp, ho, resolve, invoke, builtin, hs, hx, hrun, Result.andThen]
      exact hK _ _ hh
  | some ad =>
    refine wp_append_own w s x t ho base e i0 z 4 by0 hu hi hz0 hz1 hz2' hz2 (by decide) _ n (Sc.cells xs) hs hown ad m c (Sc.cells ys) hx (by rw [Sc.cells_len, hY.len]) (fun j u hj => hY.cel ad rfl j u hj) (fun u hu => Sc.cells_one hu) (by unfold maxLen; omega) ?_ hbase ?_
    · have := Nat.mul_le_mul hb hby
      omega
    · intro v' w' h1 h2 h3
      have hv : ∃ g' cap', v' = .slice (some ⟨g', 0, none⟩) (n + m) cap' := by
        rcases h1.2 with ⟨h4, h5⟩ | ⟨g', cap', cur, h4, _⟩
        · have := (h3.1 h4).1
          cases this
          exact absurd rfl hne
        · exact ⟨g', cap', h4⟩
      obtain ⟨g', cap', rfl⟩ := hv
      rw [← Sc.cells_append] at h1
      exact hK _ _ (h g' cap' w' h1 h2)
end
end Go.Proofs.YtpbgniffjlcbhaaDoor
