/-
  The contracts of PutName, TakeName of package le and of the document's, and of the document's Fit.
-/
import Derived.Test.YtpbgniffjlcbhaaDoorLe3
import Derived.Test.YtpbgniffjlcbhaaDoorStill0
namespace Go.Proofs.YtpbgniffjlcbhaaDoor
open Go.RowKit
set_option linter.unusedVariables false
set_option linter.unusedSimpArgs false
set_option maxRecDepth 100000
section
variable {P : Program} {ops : Array Oper} {rest : List Oper} {o : Oper} {a : Act} {Q : Exit → Act → World → Prop} {w : World}
/-- copy of a string into a row of the call's own -/
theorem copy_own {e t u : TypeId} (hu : P.underlying t = some (.slice e)) (hs1 : (P.info? e).map (·.size) = some 1) (hgd : o.guard = none) (d x : Operand)
    (ho : o.op = .call { callee := .builtin .copy, args := #[d, x], argTypes := #[t, u] }) (base g off dl dc : Nat) (S : ByteArray) (hd : a.eval d = .slice (some ⟨g, off, none⟩) dl dc) (hx : a.eval x = .string S)
    {e' : TypeId} {n cap : Nat} {xs : List Int} (hO : Ow e' .u8 base g n cap xs w) (hle : S.size ≤ dl) (hfit : off + S.size ≤ n)
    (h : ∀ w', Ow e' .u8 base g n cap (xs.take off ++ L.bs S ++ xs.drop (off + S.size)) w' → Below g w w' → wpList P ops Q rest (a.put o.dst (.int .i64 S.size)) w') : wpList P ops Q (o :: rest) a w := by
  obtain ⟨h1, h2, h3, h4, cur, h5, h6, h7⟩ := hO.has
  have hb := L.bs_len S
  refine copy_text hu hs1 hgd d x ho g off dl dc S hd hx h5 hle (by omega) (h _ ?_ ?_)
  · refine Ow.mk' h1 h2 h3 (by simp; omega) _ (h5.row _) (by simp; omega) ?_
    have e1 : cur.toList.take off = (xs.take off).map (Value.int .u8) := by
      rw [List.map_take, ← h7, List.take_take, Nat.min_eq_left (by omega)]
    have e2 : (cur.toList.drop (off + S.size)).take (n - (off + S.size)) = (xs.drop (off + S.size)).map (Value.int .u8) := by
      rw [List.take_drop, show off + S.size + (n - (off + S.size)) = n by omega, h7, List.map_drop]
    rw [List.map_append, List.map_append, ← e1, ← e2]
    simp only
    rw [List.take_append]
    rw [List.take_of_length_le (by simp; omega)]
    congr 2
    simp
    omega
  · exact ⟨rfl, rfl, rfl, by simp [World.setRow], fun k hk => setRow_other w g k _ (by omega)⟩
theorem still_value {v : Value} {K : Act → Prop} (he : (execOp a.eval o).run P w = .ok (.value v) w) (h : K (a.put o.dst v)) : o.still P a w K := by
  unfold Oper.still
  rw [he]
  exact ⟨rfl, h⟩
end
theorem L.nameB_copy (xs : List Int) : ((List.replicate (L.whole xs.length) (0 : Int)).set 0 (xs.length : Int)).take 1 ++ xs ++ ((List.replicate (L.whole xs.length) (0 : Int)).set 0 (xs.length : Int)).drop (1 + xs.length) = L.nameB xs := by
  have h := L.whole_le xs.length
  obtain ⟨m, hm⟩ : ∃ m, L.whole xs.length = m + 1 := ⟨L.whole xs.length - 1, by omega⟩
  unfold L.nameB
  rw [hm, List.replicate_succ, List.set_cons_zero]
  rw [show 1 + xs.length = xs.length + 1 by omega, List.drop_succ_cons, List.drop_replicate]
  simp
theorem L.name_size {s : ByteArray} (h : L.name (L.bs s) = true) : 1 ≤ s.size ∧ s.size ≤ 12 := by
  have := L.name_len h
  rwa [L.bs_len] at this
theorem L.whole_more (n q : Nat) (hq : 1 + n + q ≤ L.whole n) : (1 + n + q) % 4 = 0 → 1 + n + q = L.whole n := by
  have := L.whole_le n
  unfold L.whole at *
  omega
theorem L.whole_less (n q : Nat) (hq : 1 + n + q ≤ L.whole n) : ¬ (1 + n + q) % 4 = 0 → 1 + n + (q + 1) ≤ L.whole n := by
  have := L.whole_le n
  unfold L.whole at *
  omega
end Go.Proofs.YtpbgniffjlcbhaaDoor
