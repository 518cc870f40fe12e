/-
  Appends as the laws of package object want them: in drawn regions, to a row that may be nil; of zeros.
-/
import Derived.Test.YtmdknjfhdmigdaaObV
import Derived.Test.YtmdknjfhdmigdaaLast0
import Derived.Lib.AppendZerosOnto
namespace Go.Proofs.Ytmdknjfhdmigdaa
open Go.RowKit
set_option linter.unusedVariables false
set_option linter.unusedSimpArgs false
set_option maxRecDepth 100000
theorem Ob.zz_size : Ob.zz.size ≤ 1000000 := by
  have : Ob.zz.size = 3 := rfl
  omega
section
variable {P : Program} {ops : Array Oper} {rest : List Oper} {o : Oper} {a : Act} {Q : Exit → Act → World → Prop} {K : Act → World → Prop} {w : World}
/-- append of numbers as a drawn region asks it -/
theorem append_rgK {e t : TypeId} {k : IntKind} {by0 : Nat} (hu : P.underlying t = some (.slice e)) (hinf : (P.info? e).map (fun i => (i.zero, i.size, i.bytes)) = some (some (.int k 0), 1, by0)) (hby : by0 ≤ 8)
    (s x : Operand)
    (ho : o.op = .call { callee := .builtin .append, args := #[s, x], argTypes := #[t, t] }) (base g n cap : Nat) (xs : List Int) (hs : a.eval s = .slice (some ⟨g, 0, none⟩) n cap) (hown : Ow e k base g n cap xs w)
    (A : Option Addr) (m c : Nat) (ys : List Int) (hx : a.eval x = .slice A m c) (hY : Rg k w A m c ys) (hb : n + m ≤ 1000000000000) (hbase : base ≤ w.heap.size)
    (h : ∀ g' cap' w', Ow e k base g' (n + m) cap' (xs ++ ys) w' → w.grownBy w' (some g) → K (a.put o.dst (.slice (some ⟨g', 0, none⟩) (n + m) cap')) w') : o.wp P a w K Q := by
  obtain ⟨i0, hi, hz0, hz1, hz2⟩ := info_parts hinf
  cases A with
  | none =>
    have hc := hY.nil rfl
    have hm : m = 0 := by have := hY.le; omega
    subst hc hm
    have hy : ys = [] := List.eq_nil_of_length_eq_zero hY.len
    subst hy
    have hrun := run_append_owned_none (P := P) (w := w) base t o.type e i0 1 hu hi _ n _ hown
    unfold Oper.wp
    simp [execOp, ho, resolve, invoke, builtin, hs, hx, hrun, Result.andThen]
    exact h g cap w (by rw [Nat.add_zero, List.append_nil]; exact hown) ⟨rfl, rfl, rfl, Nat.le_refl _, fun _ _ _ => rfl⟩
  | some ad =>
    refine wp_append_own w s x t ho base e i0 (.int k 0) 1 by0 hu hi hz0 hz1 hz2 rfl (by decide) _ n (xs.map (Value.int k)) hs hown ad m c (ys.map (Value.int k)) hx (by rw [List.length_map, hY.len, Nat.mul_one]) ?_ ?_ (by unfold maxLen; omega) ?_ hbase ?_
    · intro j u hj
      rw [List.getElem?_map, Option.map_eq_some_iff] at hj
      obtain ⟨y, hy, rfl⟩ := hj
      exact hY.cel ad rfl j y hy
    · intro u hu
      obtain ⟨y, _, rfl⟩ := List.mem_map.1 hu
      rfl
    · have := Nat.mul_le_mul hb hby
      omega
    · intro v' w' h1 h2 h3
      have hv : ∃ g' cap', v' = .slice (some ⟨g', 0, none⟩) (n + m) cap' := by
        rcases h1.2 with ⟨h4, h5⟩ | ⟨g', cap', cur, h4, _⟩
        · have := (h3.1 h4).1
          cases this
        · exact ⟨g', cap', h4⟩
      obtain ⟨g', cap', rfl⟩ := hv
      rw [← List.map_append] at h1
      exact h g' cap' w' h1 h2
/-- numbers, one at least, to a row that may be nil -/
theorem append_onK {e t : TypeId} {k : IntKind} {by0 : Nat} (hu : P.underlying t = some (.slice e)) (hinf : (P.info? e).map (fun i => (i.zero, i.size, i.bytes)) = some (some (.int k 0), 1, by0)) (hby : by0 ≤ 8)
    (s x : Operand)
    (ho : o.op = .call { callee := .builtin .append, args := #[s, x], argTypes := #[t, t] }) (base : Nat) (A : Option Addr) (n cap : Nat) (xs : List Int) (hs : a.eval s = .slice A n cap) (hown : On e k base A n cap xs w)
    (ad : Addr) (m c : Nat) (ys : List Int) (hx : a.eval x = .slice (some ad) m c) (hY : Rg k w (some ad) m c ys) (hm : 0 < m) (hb : n + m ≤ 1000000000000) (hbase : base ≤ w.heap.size)
    (h : ∀ g' cap' w', Ow e k base g' (n + m) cap' (xs ++ ys) w' → w.grownBy w' (Value.slice A n cap).ownBlock → K (a.put o.dst (.slice (some ⟨g', 0, none⟩) (n + m) cap')) w') : o.wp P a w K Q := by
  obtain ⟨i0, hi, hz0, hz1, hz2⟩ := info_parts hinf
  refine wp_append_own w s x t ho base e i0 (.int k 0) 1 by0 hu hi hz0 hz1 hz2 rfl (by decide) _ n (xs.map (Value.int k)) hs hown ad m c (ys.map (Value.int k)) hx (by rw [List.length_map, hY.len, Nat.mul_one]) ?_ ?_ (by unfold maxLen; omega) ?_ hbase ?_
  · intro j u hj
    rw [List.getElem?_map, Option.map_eq_some_iff] at hj
    obtain ⟨y, hy, rfl⟩ := hj
    exact hY.cel ad rfl j y hy
  · intro u hu
    obtain ⟨y, _, rfl⟩ := List.mem_map.1 hu
    rfl
  · have := Nat.mul_le_mul hb hby
    omega
  · intro v' w' h1 h2 h3
    have hv : ∃ g' cap', v' = .slice (some ⟨g', 0, none⟩) (n + m) cap' := by
      rcases h1.2 with ⟨h4, h5⟩ | ⟨g', cap', cur, h4, _⟩
      · omega
      · exact ⟨g', cap', h4⟩
    obtain ⟨g', cap', rfl⟩ := hv
    rw [← List.map_append] at h1
    exact h g' cap' w' h1 h2
/-- names, one at least, to a row that may be nil -/
theorem append_syK3 {e t : TypeId} {z : Value} {by0 : Nat} (hu : P.underlying t = some (.slice e)) (hinf : (P.info? e).map (fun i => (i.zero, i.size, i.bytes)) = some (some z, 2, by0)) (hz2 : z.cells.size = 2) (hby : by0 ≤ 100)
    (s x : Operand)
    (ho : o.op = .call { callee := .builtin .append, args := #[s, x], argTypes := #[t, t] }) (base : Nat) (A : Option Addr) (n cap : Nat) (xs : List Ob.Y) (hs : a.eval s = .slice A n cap) (hown : Os e base A n cap xs w)
    (ad : Addr) (m c : Nat) (ys : List Ob.Y) (hx : a.eval x = .slice (some ad) m c) (hY : Sy w (some ad) m c ys) (hm : 0 < m) (hb : n + m ≤ 1000000000000) (hbase : base ≤ w.heap.size)
    (h : ∀ g' cap' w', Os e base (some ⟨g', 0, none⟩) (n + m) cap' (xs ++ ys) w' → w.grownBy w' (Value.slice A n cap).ownBlock → K (a.put o.dst (.slice (some ⟨g', 0, none⟩) (n + m) cap')) w') : o.wp P a w K Q := by
  obtain ⟨i0, hi, hz0, hz1, hz2'⟩ := info_parts hinf
  refine wp_append_own w s x t ho base e i0 z 2 by0 hu hi hz0 hz1 hz2' hz2 (by decide) _ n (Ob.cells xs) hs hown ad m c (Ob.cells ys) hx (by rw [Ob.cells_len, hY.len]) (fun j u hj => hY.cel ad rfl j u hj) (fun u hu => Ob.cells_one hu) (by unfold maxLen; omega) ?_ hbase ?_
  · have := Nat.mul_le_mul hb hby
    omega
  · intro v' w' h1 h2 h3
    have hv : ∃ g' cap', v' = .slice (some ⟨g', 0, none⟩) (n + m) cap' := by
      rcases h1.2 with ⟨h4, h5⟩ | ⟨g', cap', cur, h4, _⟩
      · omega
      · exact ⟨g', cap', h4⟩
    obtain ⟨g', cap', rfl⟩ := hv
    rw [← Ob.cells_append] at h1
    exact h g' cap' w' h1 h2
/-- zeros behind a row of numbers: append of made zeros, which the translation hands their count -/
theorem Ob.zeros_toList (k : IntKind) (N : Nat) : (Builtin.zeroCells (Value.int k 0).cells N).toList = (List.replicate N (0 : Int)).map (Value.int k) := by
  apply List.ext_getElem?
  intro j
  by_cases hj : j < N
  · simp [Builtin.zeroCells, Value.cells, hj, Nat.mod_one]
  · simp [Builtin.zeroCells, Value.cells, hj]
theorem append_zeros {e t tn : TypeId} {k kn : IntKind} {by0 : Nat} (hu : P.underlying t = some (.slice e)) (htn : P.underlying tn = some (.int kn)) (hinf : (P.info? e).map (fun i => (i.zero, i.size, i.bytes)) = some (some (.int k 0), 1, by0)) (hby : by0 ≤ 8)
    (hgd : o.guard = none) (s x : Operand)
    (ho : o.op = .call { callee := .builtin .append, args := #[s, x], argTypes := #[t, tn] }) (base g n cap : Nat) (xs : List Int) (hs : a.eval s = .slice (some ⟨g, 0, none⟩) n cap) (hown : Ow e k base g n cap xs w)
    (N : Nat) (hx : a.eval x = .int .i64 N) (hN : 0 < N) (hb : n + N ≤ 1000000) (hbase : base ≤ w.heap.size)
    (h : ∀ g' cap' w', Ow e k base g' (n + N) cap' (xs ++ List.replicate N 0) w' → w.grownBy w' (some g) → wpList P ops Q rest (a.put o.dst (.slice (some ⟨g', 0, none⟩) (n + N) cap')) w') : wpList P ops Q (o :: rest) a w := by
  obtain ⟨i0, hi, hz0, hz1, hz2⟩ := info_parts hinf
  obtain ⟨h1, h2, h3, h4, cur, h5, h6, h7⟩ := hown.has
  refine wpList_plain hgd fun K hK => ?_
  have hn1 : N * i0.bytes ≤ 1000000 * 8 := Nat.mul_le_mul (by omega) (by omega)
  have hn2 : (n + N) * i0.bytes ≤ 1000000 * 8 := Nat.mul_le_mul (by omega) (by omega)
  by_cases hr : n + N ≤ cap
  · have hz : (Builtin.zeroCells (Value.int k 0).cells N).toList.length = N := by rw [Ob.zeros_toList]; simp
    have hst := run_storeCells_at P g n e (Builtin.zeroCells (Value.int k 0).cells N).toList 0 cur w h5 (by rw [hz]; omega) (by
      intro u hu
      rw [Ob.zeros_toList] at hu
      obtain ⟨y, _, rfl⟩ := List.mem_map.1 hu
      rfl)
    simp only [Nat.add_zero] at hst
    have hw : IntKind.i64.wrap (N : Int) = N := by rw [IntKind.wrap_i64]; omega
    have hneg : ¬ ((N : Int) < 0) := by omega
    have h48 : ¬ (281474976710656 < (N : Int) * (i0.bytes : Int)) := by
      rw [← Int.natCast_mul]
      omega
    have hNe : N ≠ 0 := by omega
    have hrun : (Builtin.append_ #[t, tn] o.type #[.slice (some ⟨g, 0, none⟩) n cap, .int .i64 N]).run P w = .ok (.slice (some ⟨g, 0, none⟩) (n + N) cap) (w.setRow g (cur.toList.take n ++ (Builtin.zeroCells (Value.int k 0).cells N).toList ++ cur.toList.drop (n + N)).toArray) := by
      rw [hz] at hst
      simp [Builtin.append_, run_underlying hu, run_underlying htn, sizeOf, typeInfo, zeroValue, hi, hz0, hz1, asInt, asIntOf, hw, hneg, h48, hNe, hr, Addr.add_lit, hst]
    unfold Oper.wp
    simp [execOp, ho, resolve, invoke, builtin, hs, hx, hrun, Result.andThen]
    refine hK _ _ (h g cap _ (Ow.mk' h1 hr h3 (by simp [h4]) _ (h5.row _) ?_ ?_) ⟨rfl, rfl, rfl, by simp [World.setRow], fun k' _ hk => setRow_other w g k' _ (fun e => hk (by rw [e]))⟩)
    · simp [Ob.zeros_toList]
      omega
    · rw [h7, Ob.zeros_toList]
      simp only [List.map_append, ← List.append_assoc]
      exact List.take_left' (by simp [h4])
  · have holds : ∀ j u, (xs.map (Value.int k))[j]? = some u → w.drew.cell? ((⟨g, 0, none⟩ : Addr).add j) = some u := hown.cells (g := g) rfl
    have hold := run_firstCells_some (P := P) w.drew i0.size n ⟨g, 0, none⟩ n cap (xs.map (Value.int k)) (by rw [List.length_map, h4, hz1, Nat.mul_one]) holds
    have hrun := Lib.run_append_grow_zeros (P := P) w t tn o.type e i0 (.int k 0) .i64 kn hu htn hi hz0 (some ⟨g, 0, none⟩) n cap (xs.map (Value.int k)) hold N hN (by omega) (by omega) (by omega) (by omega) (growslice_fits (by omega) (by omega))
    have hge := grownCap_ge w (n + N) cap e
    have hcm : grownCap w (n + N) cap e ≤ maxLen := grownCap_le_maxLen w (n + N) cap e (by unfold maxLen; omega)
    unfold Oper.wp
    simp [execOp, ho, resolve, invoke, builtin, hs, hx, hrun, Result.andThen]
    refine hK _ _ (h w.heap.size _ _ (Ow.mk' hbase hge hcm (by simp [h4]) _ (Go.heap_alloc_new w.drew _) ?_ ?_) ⟨rfl, rfl, rfl, by simp, fun k' hk' _ => Go.heap_alloc_old w.drew _ hk'⟩)
    · simp only [Array.size_append, List.size_toArray, List.length_map, size_zeroCells, Value.cells, h4, List.size_toArray, List.length_cons, List.length_nil]
      omega
    · simp only [Array.toList_append, Ob.zeros_toList, List.map_append, ← List.append_assoc]
      exact List.take_left' (by simp [h4])
end
end Go.Proofs.Ytmdknjfhdmigdaa
