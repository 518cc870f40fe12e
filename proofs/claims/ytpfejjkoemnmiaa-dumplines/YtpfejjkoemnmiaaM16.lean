/-
  Joined: Last0, ObW, Last1.
-/
import Derived.OrdersHeld
import Derived.Deep.RegionHeld
import Derived.Lib.AppendZerosOnto
import Derived.Test.YtpfejjkoemnmiaaM01
import Derived.Test.YtpfejjkoemnmiaaM15
/-
  A region that draws its order and whose LAST operations (from number T on; they wait for all others) break the condition under which the others commute: 's.f = append(s.f, x)', where the field that is stored, and the row that is appended to, are read on the way. The condition is asked behind every operation but those. No Go text is named here.
-/
namespace Go.Proofs.Ytpfejjkoemnmiaa
open Go.RowKit
set_option linter.unusedVariables false
set_option linter.unusedSimpArgs false
set_option maxRecDepth 100000
set_option maxRecDepth 100000
section
variable {P : Program} {md : Region.Mode} {ops : Array Oper} {Q : Exit → Act → World → Prop} {T : Nat} {S S' : World → Prop}
/-- whatever comes up from here on; behind each operation ahead of T the world meets S -/
def wpT (P : Program) (md : Region.Mode) (ops : Array Oper) (Q : Exit → Act → World → Prop) (T : Nat) (S : World → Prop) : Nat → Array Bool → Act → World → Prop
  | 0, listed, a, w => Region.ready md ops listed = [] ∧ Q .normal a w
  | f + 1, listed, a, w =>
    (Region.ready md ops listed = [] → Q .normal a w) ∧
    ∀ i, i ∈ Region.ready md ops listed → wpOp P ops Q i (fun a' w' => (i < T → S w') ∧ wpT P md ops Q T S f (listed.setIfInBounds i true) a' w') a w
theorem wpT.any : ∀ (f : Nat) (listed : Array Bool) (a : Act) (w : World), wpT P md ops Q T S f listed a w → wpAny P md ops Q f listed a w
  | 0, _, _, _, h => h
  | f + 1, _, _, _, h => ⟨h.1, fun i hi => wpOp_mono (fun _ _ q => wpT.any f _ _ _ q.2) (h.2 i hi)⟩
theorem wpT.start {id : Nat} {a : Act} {w : World} (hm : P.follows .mixedOrders = true) (h : wpT P .any ops Q T S ops.size (Array.replicate ops.size false) a w.drew) : (Code.region id ops true).wp P Q a w :=
  wp_region_any hm (wpT.any _ _ _ _ h)
theorem wpT.done {listed : Array Bool} {a : Act} {w : World} (hr : Region.ready md ops listed = []) (h : Q .normal a w) : ∀ f, wpT P md ops Q T S f listed a w
  | 0 => ⟨hr, h⟩
  | _ + 1 => ⟨fun _ => h, fun i hi => by rw [hr] at hi; cases hi⟩
/-- what has come up is closed under what it waits for -/
def Closed (md : Region.Mode) (ops : Array Oper) (listed : Array Bool) : Prop := ∀ k o, ops[k]? = some o → listed.getD k false = true → ∀ e ∈ o.after, Region.binds md e = true → listed.getD e.on false = true
def closedB (md : Region.Mode) (ops : Array Oper) (listed : Array Bool) : Bool :=
  (List.range ops.size).all fun k => match ops[k]? with
    | some o => !listed.getD k false || o.after.all fun e => !Region.binds md e || listed.getD e.on false
    | none => true
theorem Closed.of {listed : Array Bool} (h : closedB md ops listed = true) : Closed md ops listed := fun k o ho hk e he hb => by
  have hlt : k < ops.size := (Array.getElem?_eq_some_iff.1 ho).1
  have h1 := List.all_eq_true.1 h k (List.mem_range.2 hlt)
  rw [ho] at h1
  simp only [hk, Bool.not_true, Bool.false_or, Array.all_eq_true'] at h1
  have h2 := h1 e he
  rw [hb] at h2
  simpa using h2
theorem Closed.step {listed : Array Bool} (h : Closed md ops listed) {j : Nat} (hj : j ∈ Region.ready md ops listed) : Closed md ops (listed.setIfInBounds j true) := fun k o ho hk e he hb => by
  obtain ⟨_, oj, hoj, hall⟩ := mem_ready.1 hj
  refine getD_set_true ?_
  rcases Decidable.em (j = k) with q | q
  · subst q
    rw [ho] at hoj
    cases hoj
    exact hall e he hb
  · rw [getD_set_ne false q] at hk
    exact h k o ho hk e he hb
/-- the operation t waits for i, by way of others -/
def reach (md : Region.Mode) (ops : Array Oper) : Nat → Nat → Nat → Bool
  | 0, _, _ => false
  | f + 1, t, i => match ops[t]? with
    | some o => o.after.any fun e => Region.binds md e && (e.on == i || reach md ops f e.on i)
    | none => false
theorem reach_listed {listed : Array Bool} (hc : Closed md ops listed) {i : Nat} : ∀ (f t : Nat) (o : Oper), ops[t]? = some o → (∀ e ∈ o.after, Region.binds md e = true → listed.getD e.on false = true) → reach md ops f t i = true → listed.getD i false = true
  | 0, _, _, _, _, h => by cases h
  | f + 1, t, o, ho, hall, h => by
    unfold reach at h
    rw [ho] at h
    simp only [Array.any_eq_true', Bool.and_eq_true, Bool.or_eq_true, beq_iff_eq] at h
    obtain ⟨e, he, hb, h⟩ := h
    have hl := hall e he hb
    rcases h with h | h
    · rw [← h]; exact hl
    · have hex : ∃ o', ops[e.on]? = some o' := by
        cases q : ops[e.on]? with
        | some o' => exact ⟨o', rfl⟩
        | none =>
          cases f with
          | zero => cases h
          | succ f => unfold reach at h; rw [q] at h; cases h
      obtain ⟨o', ho'⟩ := hex
      exact reach_listed hc f e.on o' ho' (fun e' he' hb' => hc e.on o' ho' hl e' he' hb') h
/-- all from T on wait for i -/
def waits (md : Region.Mode) (ops : Array Oper) (T i : Nat) : Bool := (List.range ops.size).all fun t => decide (t < T) || reach md ops ops.size t i
/-- what only reads may be taken first, where all from T on wait for it -/
theorem wpT.first {i : Nat} {oi : Oper} {v : Value} (hi : ops[i]? = some oi) (hs : Region.noSelect ops = true) (hQ : ∀ c a w, Q (.panic c) (a.put oi.dst v) w → Q (.panic c) a w) (hw : waits md ops T i = true) :
    ∀ (f : Nat) (listed : Array Bool) (a : Act) (w : World), Closed md ops listed →
      (∀ j oj, ops[j]? = some oj → j ≠ i → listed.getD j true = false → (∀ e ∈ oj.after, Region.binds md e = true → e.on ≠ i) → oi.apart ops oj = true) →
      i ∈ Region.ready md ops listed → YieldsIf P ops S oi v a → S w → wpT P md ops Q T S f (listed.setIfInBounds i true) (a.put oi.dst v) w → wpT P md ops Q T S (f + 1) listed a w
  | f, listed, a, w, hc, hfree, hr, hy, hS, H => by
    refine ⟨fun q => (by rw [q] at hr; cases hr), fun j hj => ?_⟩
    rcases Decidable.em (j = i) with e | hji
    · rw [e]
      exact hy.wpOp hi hS ⟨fun _ => hS, H⟩
    · have hjr := ready_mono hj hji
      cases f with
      | zero => rw [H.1] at hjr; cases hjr
      | succ f =>
        obtain ⟨hun, oj, hoj, hall⟩ := mem_ready.1 hj
        have hli := (mem_ready.1 hr).1
        have hlf : listed.getD i false = false := by
          rcases Nat.lt_or_ge i listed.size with c | c
          · simpa [c] using hli
          · simp [Array.getElem?_eq_none c]
        have hno : ∀ e ∈ oj.after, Region.binds md e = true → e.on ≠ i := fun e he hb hon => by
          have := hall e he hb
          rw [hon, hlf] at this
          cases this
        have hjT : j < T := by
          apply Classical.byContradiction
          intro hge
          have h1 := List.all_eq_true.1 hw j (List.mem_range.2 (Array.getElem?_eq_some_iff.1 hoj).1)
          rw [decide_eq_false hge, Bool.false_or] at h1
          have := reach_listed hc _ j oj hoj hall h1
          rw [hlf] at this
          cases this
        have hsel := Region.noSelect_spec hs
        have h2 := wpOp_putIf hoj (hfree j oj hoj hji hun hno) (fun cs b => hsel i oi cs b hi) (fun cs b => hsel j oj cs b hoj) hQ hy (H.2 j hjr)
        refine wpOp_mono (fun a' w' q => ⟨fun _ => q.2.1 hjT, ?_⟩) h2
        refine wpT.first hi hs hQ hw f (listed.setIfInBounds j true) a' w' (hc.step hj) (fun k ok hk hki huk hnk => ?_) (ready_mono hr (fun e => hji e.symm)) q.1 (q.2.1 hjT) ?_
        · rcases Decidable.em (j = k) with e | hjk
          · exact hfree k ok hk hki (by rw [← e]; exact hun) hnk
          · exact hfree k ok hk hki (by rw [getD_set_ne true hjk] at huk; exact huk) hnk
        · rw [Array.setIfInBounds_comm _ _ hji]
          exact q.2.2
theorem wpT.take {i : Nat} {oi : Oper} {v : Value} {f : Nat} {listed : Array Bool} {a : Act} {w : World} (hi : ops[i]? = some oi)
    (hs : Region.noSelect ops = true) (hw : waits md ops T i = true) (hc : closedB md ops listed = true) (hf : Region.free md ops listed i = true) (hr : (Region.ready md ops listed).contains i = true)
    (hQ : ∀ c a w, Q (.panic c) (a.put oi.dst v) w → Q (.panic c) a w) (hy : YieldsIf P ops S oi v a) (hS : S w)
    (h : wpT P md ops Q T S f (listed.setIfInBounds i true) (a.put oi.dst v) w) : wpT P md ops Q T S (f + 1) listed a w :=
  wpT.first hi hs hQ hw f listed a w (Closed.of hc) (Region.free_spec hi hf) (by simpa using hr) hy hS h
/-- the one operation that may come up, ahead of T -/
theorem wpT.one {i : Nat} {o : Oper} {f : Nat} {listed : Array Bool} {a : Act} {w : World} (ho : ops[i]? = some o) (hr : Region.ready md ops listed = [i])
    (h : ∀ K' : Act → World → Prop, Shut (∀ a w, S w → (S w → wpT P md ops Q T S f (listed.setIfInBounds i true) a w) → K' a w) → if Region.wanted o (yielded ops a.tmps) = true then Oper.wp P o a w K' Q else K' (a.put o.dst undef) w) : wpT P md ops Q T S (f + 1) listed a w :=
  ⟨fun q => (by rw [hr] at q; cases q), fun j hj => by
    rw [hr] at hj
    obtain rfl : j = i := by simpa using hj
    exact wpOp_step ho (fun K' hK => h K' (fun a w hS hW => hK a w ⟨fun _ => hS, hW hS⟩))⟩
/-- the one operation that may come up, from T on -/
theorem wpT.late {i : Nat} {o : Oper} {f : Nat} {listed : Array Bool} {a : Act} {w : World} (hi : T ≤ i) (ho : ops[i]? = some o) (hr : Region.ready md ops listed = [i])
    (h : ∀ K' : Act → World → Prop, Shut (∀ a w, wpT P md ops Q T S f (listed.setIfInBounds i true) a w → K' a w) → if Region.wanted o (yielded ops a.tmps) = true then Oper.wp P o a w K' Q else K' (a.put o.dst undef) w) : wpT P md ops Q T S (f + 1) listed a w :=
  ⟨fun q => (by rw [hr] at q; cases q), fun j hj => by
    rw [hr] at hj
    obtain rfl : j = i := by simpa using hj
    exact wpOp_step ho (fun K' hK => h K' (fun a w hW => hK a w ⟨fun n => absurd hi (by omega), hW⟩))⟩
end
end Go.Proofs.Ytpfejjkoemnmiaa
/-
  Appends as the laws of package object want them: in drawn regions, to a row that may be nil; of zeros.
-/
namespace Go.Proofs.Ytpfejjkoemnmiaa
open Go.RowKit
set_option linter.unusedVariables false
set_option linter.unusedSimpArgs false
set_option maxRecDepth 100000
theorem Ob.zz_size : Ob.zz.size ≤ 1000000 := by
  have : Ob.zz.size = 3 := rfl
  omega
section
variable {P : Program} {ops : Array Oper} {rest : List Oper} {o : Oper} {a : Act} {Q : Exit → Act → World → Prop} {K : Act → World → Prop} {w : World}
/-- append of numbers as a drawn region asks it -/
theorem append_rgK {e t : TypeId} {k : IntKind} {by0 : Nat} (hu : P.underlying t = some (.slice e)) (hinf : (P.info? e).map (fun i => (i.zero, i.size, i.bytes)) = some (some (.int k 0), 1, by0)) (hby : by0 ≤ 8)
    (s x : Operand)
    (ho : o.op = .call { callee := .builtin .append, args := #[s, x], argTypes := #[t, t] }) (base g n cap : Nat) (xs : List Int) (hs : a.eval s = .slice (some ⟨g, 0, none⟩) n cap) (hown : Ow e k base g n cap xs w)
    (A : Option Addr) (m c : Nat) (ys : List Int) (hx : a.eval x = .slice A m c) (hY : Rg k w A m c ys) (hb : n + m ≤ 1000000000000) (hbase : base ≤ w.heap.size)
    (h : ∀ g' cap' w', Ow e k base g' (n + m) cap' (xs ++ ys) w' → w.grownBy w' (some g) → K (a.put o.dst (.slice (some ⟨g', 0, none⟩) (n + m) cap')) w') : o.wp P a w K Q := by
  obtain ⟨i0, hi, hz0, hz1, hz2⟩ := info_parts hinf
  cases A with
  | none =>
    have hc := hY.nil rfl
    have hm : m = 0 := by have := hY.le; omega
    subst hc hm
    have hy : ys = [] := List.eq_nil_of_length_eq_zero hY.len
    subst hy
    have hrun := run_append_owned_none (P := P) (w := w) base t o.type e i0 1 hu hi _ n _ hown
    unfold Oper.wp
    simp [execOp, ho, resolve, invoke, builtin, hs, hx, hrun, Result.andThen]
    exact h g cap w (by rw [Nat.add_zero, List.append_nil]; exact hown) ⟨rfl, rfl, rfl, Nat.le_refl _, fun _ _ _ => rfl⟩
  | some ad =>
    refine wp_append_own w s x t ho base e i0 (.int k 0) 1 by0 hu hi hz0 hz1 hz2 rfl (by decide) _ n (xs.map (Value.int k)) hs hown ad m c (ys.map (Value.int k)) hx (by rw [List.length_map, hY.len, Nat.mul_one]) ?_ ?_ (by unfold maxLen; omega) ?_ hbase ?_
    · intro j u hj
      rw [List.getElem?_map, Option.map_eq_some_iff] at hj
      obtain ⟨y, hy, rfl⟩ := hj
      exact hY.cel ad rfl j y hy
    · intro u hu
      obtain ⟨y, _, rfl⟩ := List.mem_map.1 hu
      rfl
    · have := Nat.mul_le_mul hb hby
      omega
    · intro v' w' h1 h2 h3
      have hv : ∃ g' cap', v' = .slice (some ⟨g', 0, none⟩) (n + m) cap' := by
        rcases h1.2 with ⟨h4, h5⟩ | ⟨g', cap', cur, h4, _⟩
        · have := (h3.1 h4).1
          cases this
        · exact ⟨g', cap', h4⟩
      obtain ⟨g', cap', rfl⟩ := hv
      rw [← List.map_append] at h1
      exact h g' cap' w' h1 h2
/-- numbers, one at least, to a row that may be nil -/
theorem append_onK {e t : TypeId} {k : IntKind} {by0 : Nat} (hu : P.underlying t = some (.slice e)) (hinf : (P.info? e).map (fun i => (i.zero, i.size, i.bytes)) = some (some (.int k 0), 1, by0)) (hby : by0 ≤ 8)
    (s x : Operand)
    (ho : o.op = .call { callee := .builtin .append, args := #[s, x], argTypes := #[t, t] }) (base : Nat) (A : Option Addr) (n cap : Nat) (xs : List Int) (hs : a.eval s = .slice A n cap) (hown : On e k base A n cap xs w)
    (ad : Addr) (m c : Nat) (ys : List Int) (hx : a.eval x = .slice (some ad) m c) (hY : Rg k w (some ad) m c ys) (hm : 0 < m) (hb : n + m ≤ 1000000000000) (hbase : base ≤ w.heap.size)
    (h : ∀ g' cap' w', Ow e k base g' (n + m) cap' (xs ++ ys) w' → w.grownBy w' (Value.slice A n cap).ownBlock → K (a.put o.dst (.slice (some ⟨g', 0, none⟩) (n + m) cap')) w') : o.wp P a w K Q := by
  obtain ⟨i0, hi, hz0, hz1, hz2⟩ := info_parts hinf
  refine wp_append_own w s x t ho base e i0 (.int k 0) 1 by0 hu hi hz0 hz1 hz2 rfl (by decide) _ n (xs.map (Value.int k)) hs hown ad m c (ys.map (Value.int k)) hx (by rw [List.length_map, hY.len, Nat.mul_one]) ?_ ?_ (by unfold maxLen; omega) ?_ hbase ?_
  · intro j u hj
    rw [List.getElem?_map, Option.map_eq_some_iff] at hj
    obtain ⟨y, hy, rfl⟩ := hj
    exact hY.cel ad rfl j y hy
  · intro u hu
    obtain ⟨y, _, rfl⟩ := List.mem_map.1 hu
    rfl
  · have := Nat.mul_le_mul hb hby
    omega
  · intro v' w' h1 h2 h3
    have hv : ∃ g' cap', v' = .slice (some ⟨g', 0, none⟩) (n + m) cap' := by
      rcases h1.2 with ⟨h4, h5⟩ | ⟨g', cap', cur, h4, _⟩
      · omega
      · exact ⟨g', cap', h4⟩
    obtain ⟨g', cap', rfl⟩ := hv
    rw [← List.map_append] at h1
    exact h g' cap' w' h1 h2
/-- names, one at least, to a row that may be nil -/
theorem append_syK3 {e t : TypeId} {z : Value} {by0 : Nat} (hu : P.underlying t = some (.slice e)) (hinf : (P.info? e).map (fun i => (i.zero, i.size, i.bytes)) = some (some z, 2, by0)) (hz2 : z.cells.size = 2) (hby : by0 ≤ 100)
    (s x : Operand)
    (ho : o.op = .call { callee := .builtin .append, args := #[s, x], argTypes := #[t, t] }) (base : Nat) (A : Option Addr) (n cap : Nat) (xs : List Ob.Y) (hs : a.eval s = .slice A n cap) (hown : Os e base A n cap xs w)
    (ad : Addr) (m c : Nat) (ys : List Ob.Y) (hx : a.eval x = .slice (some ad) m c) (hY : Sy w (some ad) m c ys) (hm : 0 < m) (hb : n + m ≤ 1000000000000) (hbase : base ≤ w.heap.size)
    (h : ∀ g' cap' w', Os e base (some ⟨g', 0, none⟩) (n + m) cap' (xs ++ ys) w' → w.grownBy w' (Value.slice A n cap).ownBlock → K (a.put o.dst (.slice (some ⟨g', 0, none⟩) (n + m) cap')) w') : o.wp P a w K Q := by
  obtain ⟨i0, hi, hz0, hz1, hz2'⟩ := info_parts hinf
  refine wp_append_own w s x t ho base e i0 z 2 by0 hu hi hz0 hz1 hz2' hz2 (by decide) _ n (Ob.cells xs) hs hown ad m c (Ob.cells ys) hx (by rw [Ob.cells_len, hY.len]) (fun j u hj => hY.cel ad rfl j u hj) (fun u hu => Ob.cells_one hu) (by unfold maxLen; omega) ?_ hbase ?_
  · have := Nat.mul_le_mul hb hby
    omega
  · intro v' w' h1 h2 h3
    have hv : ∃ g' cap', v' = .slice (some ⟨g', 0, none⟩) (n + m) cap' := by
      rcases h1.2 with ⟨h4, h5⟩ | ⟨g', cap', cur, h4, _⟩
      · omega
      · exact ⟨g', cap', h4⟩
    obtain ⟨g', cap', rfl⟩ := hv
    rw [← Ob.cells_append] at h1
    exact h g' cap' w' h1 h2
/-- zeros behind a row of numbers: append of made zeros, which the translation hands their count -/
theorem Ob.zeros_toList (k : IntKind) (N : Nat) : (Builtin.zeroCells (Value.int k 0).cells N).toList = (List.replicate N (0 : Int)).map (Value.int k) := by
  apply List.ext_getElem?
  intro j
  by_cases hj : j < N
  · simp [Builtin.zeroCells, Value.cells, hj, Nat.mod_one]
  · simp [Builtin.zeroCells, Value.cells, hj]
theorem append_zeros {e t tn : TypeId} {k kn : IntKind} {by0 : Nat} (hu : P.underlying t = some (.slice e)) (htn : P.underlying tn = some (.int kn)) (hinf : (P.info? e).map (fun i => (i.zero, i.size, i.bytes)) = some (some (.int k 0), 1, by0)) (hby : by0 ≤ 8)
    (hgd : o.guard = none) (s x : Operand)
    (ho : o.op = .call { callee := .builtin .append, args := #[s, x], argTypes := #[t, tn] }) (base g n cap : Nat) (xs : List Int) (hs : a.eval s = .slice (some ⟨g, 0, none⟩) n cap) (hown : Ow e k base g n cap xs w)
    (N : Nat) (hx : a.eval x = .int .i64 N) (hN : 0 < N) (hb : n + N ≤ 1000000) (hbase : base ≤ w.heap.size)
    (h : ∀ g' cap' w', Ow e k base g' (n + N) cap' (xs ++ List.replicate N 0) w' → w.grownBy w' (some g) → wpList P ops Q rest (a.put o.dst (.slice (some ⟨g', 0, none⟩) (n + N) cap')) w') : wpList P ops Q (o :: rest) a w := by
  obtain ⟨i0, hi, hz0, hz1, hz2⟩ := info_parts hinf
  obtain ⟨h1, h2, h3, h4, cur, h5, h6, h7⟩ := hown.has
  refine wpList_plain hgd fun K hK => ?_
  have hn1 : N * i0.bytes ≤ 1000000 * 8 := Nat.mul_le_mul (by omega) (by omega)
  have hn2 : (n + N) * i0.bytes ≤ 1000000 * 8 := Nat.mul_le_mul (by omega) (by omega)
  by_cases hr : n + N ≤ cap
  · have hz : (Builtin.zeroCells (Value.int k 0).cells N).toList.length = N := by rw [Ob.zeros_toList]; simp
    have hst := run_storeCells_at P g n e (Builtin.zeroCells (Value.int k 0).cells N).toList 0 cur w h5 (by rw [hz]; omega) (by
      intro u hu
      rw [Ob.zeros_toList] at hu
      obtain ⟨y, _, rfl⟩ := List.mem_map.1 hu
      rfl)
    simp only [Nat.add_zero] at hst
    have hw : IntKind.i64.wrap (N : Int) = N := by rw [IntKind.wrap_i64]; omega
    have hneg : ¬ ((N : Int) < 0) := by omega
    have h48 : ¬ (281474976710656 < (N : Int) * (i0.bytes : Int)) := by
      rw [← Int.natCast_mul]
      omega
    have hNe : N ≠ 0 := by omega
    have hrun : (Builtin.append_ #[t, tn] o.type #[.slice (some ⟨g, 0, none⟩) n cap, .int .i64 N]).run P w = .ok (.slice (some ⟨g, 0, none⟩) (n + N) cap) (w.setRow g (cur.toList.take n ++ (Builtin.zeroCells (Value.int k 0).cells N).toList ++ cur.toList.drop (n + N)).toArray) := by
      rw [hz] at hst
      simp [Builtin.append_, run_underlying hu, run_underlying htn, sizeOf, typeInfo, zeroValue, hi, hz0, hz1, asInt, asIntOf, hw, hneg, h48, hNe, hr, Addr.add_lit, hst]
    unfold Oper.wp
    simp [execOp, ho, resolve, invoke, builtin, hs, hx, hrun, Result.andThen]
    refine hK _ _ (h g cap _ (Ow.mk' h1 hr h3 (by simp [h4]) _ (h5.row _) ?_ ?_) ⟨rfl, rfl, rfl, by simp [World.setRow], fun k' _ hk => setRow_other w g k' _ (fun e => hk (by rw [e]))⟩)
    · simp [Ob.zeros_toList]
      omega
    · rw [h7, Ob.zeros_toList]
      simp only [List.map_append, ← List.append_assoc]
      exact List.take_left' (by simp [h4])
  · have holds : ∀ j u, (xs.map (Value.int k))[j]? = some u → w.drew.cell? ((⟨g, 0, none⟩ : Addr).add j) = some u := hown.cells (g := g) rfl
    have hold := run_firstCells_some (P := P) w.drew i0.size n ⟨g, 0, none⟩ n cap (xs.map (Value.int k)) (by rw [List.length_map, h4, hz1, Nat.mul_one]) holds
    have hrun := Lib.run_append_grow_zeros (P := P) w t tn o.type e i0 (.int k 0) .i64 kn hu htn hi hz0 (some ⟨g, 0, none⟩) n cap (xs.map (Value.int k)) hold N hN (by omega) (by omega) (by omega) (by omega) (growslice_fits (by omega) (by omega))
    have hge := grownCap_ge w (n + N) cap e
    have hcm : grownCap w (n + N) cap e ≤ maxLen := grownCap_le_maxLen w (n + N) cap e (by unfold maxLen; omega)
    unfold Oper.wp
    simp [execOp, ho, resolve, invoke, builtin, hs, hx, hrun, Result.andThen]
    refine hK _ _ (h w.heap.size _ _ (Ow.mk' hbase hge hcm (by simp [h4]) _ (Go.heap_alloc_new w.drew _) ?_ ?_) ⟨rfl, rfl, rfl, by simp, fun k' hk' _ => Go.heap_alloc_old w.drew _ hk'⟩)
    · simp only [Array.size_append, List.size_toArray, List.length_map, size_zeroCells, Value.cells, h4, List.size_toArray, List.length_cons, List.length_nil]
      omega
    · simp only [Array.toList_append, Ob.zeros_toList, List.map_append, ← List.append_assoc]
      exact List.take_left' (by simp [h4])
end
end Go.Proofs.Ytpfejjkoemnmiaa
/-
  A region that draws its order, some of whose operations (those that are not early) break the condition under which the others commute: as Last0, with a set of early operations in place of a number; what reads no memory may be taken at any time.
-/
namespace Go.Proofs.Ytpfejjkoemnmiaa
open Go.RowKit
set_option linter.unusedVariables false
set_option linter.unusedSimpArgs false
set_option maxRecDepth 100000
section
variable {P : Program} {md : Region.Mode} {ops : Array Oper} {Q : Exit → Act → World → Prop} {E : Nat → Bool} {S S' : World → Prop}
/-- whatever comes up from here on; behind each early operation the world meets S -/
def wpE (P : Program) (md : Region.Mode) (ops : Array Oper) (Q : Exit → Act → World → Prop) (E : Nat → Bool) (S : World → Prop) : Nat → Array Bool → Act → World → Prop
  | 0, listed, a, w => Region.ready md ops listed = [] ∧ Q .normal a w
  | f + 1, listed, a, w =>
    (Region.ready md ops listed = [] → Q .normal a w) ∧
    ∀ i, i ∈ Region.ready md ops listed → wpOp P ops Q i (fun a' w' => (E i = true → S w → S w') ∧ wpE P md ops Q E S f (listed.setIfInBounds i true) a' w') a w
theorem wpE.any : ∀ (f : Nat) (listed : Array Bool) (a : Act) (w : World), wpE P md ops Q E S f listed a w → wpAny P md ops Q f listed a w
  | 0, _, _, _, h => h
  | f + 1, _, _, _, h => ⟨h.1, fun i hi => wpOp_mono (fun _ _ q => wpE.any f _ _ _ q.2) (h.2 i hi)⟩
theorem wpE.start {id : Nat} {a : Act} {w : World} (E : Nat → Bool) (S : World → Prop) (hm : P.follows .mixedOrders = true) (h : wpE P .any ops Q E S ops.size (Array.replicate ops.size false) a w.drew) : (Code.region id ops true).wp P Q a w :=
  wp_region_any hm (wpE.any _ _ _ _ h)
theorem wpE.done {listed : Array Bool} {a : Act} {w : World} (hr : Region.ready md ops listed = []) (h : Q .normal a w) : ∀ f, wpE P md ops Q E S f listed a w
  | 0 => ⟨hr, h⟩
  | _ + 1 => ⟨fun _ => h, fun i hi => by rw [hr] at hi; cases hi⟩
/-- all that are not early wait for i -/
def waitsE (md : Region.Mode) (ops : Array Oper) (E : Nat → Bool) (i : Nat) : Bool := (List.range ops.size).all fun t => E t || reach md ops ops.size t i
/-- what only reads may be taken first, where all from T on wait for it -/
theorem wpE.first {i : Nat} {oi : Oper} {v : Value} (hi : ops[i]? = some oi) (hs : Region.noSelect ops = true) (hQ : ∀ c a w, Q (.panic c) (a.put oi.dst v) w → Q (.panic c) a w) (hw : waitsE md ops E i = true) :
    ∀ (f : Nat) (listed : Array Bool) (a : Act) (w : World), Closed md ops listed →
      (∀ j oj, ops[j]? = some oj → j ≠ i → listed.getD j true = false → (∀ e ∈ oj.after, Region.binds md e = true → e.on ≠ i) → oi.apart ops oj = true) →
      i ∈ Region.ready md ops listed → YieldsIf P ops S oi v a → S w → wpE P md ops Q E S f (listed.setIfInBounds i true) (a.put oi.dst v) w → wpE P md ops Q E S (f + 1) listed a w
  | f, listed, a, w, hc, hfree, hr, hy, hS, H => by
    refine ⟨fun q => (by rw [q] at hr; cases hr), fun j hj => ?_⟩
    rcases Decidable.em (j = i) with e | hji
    · rw [e]
      exact hy.wpOp hi hS ⟨fun _ h => h, H⟩
    · have hjr := ready_mono hj hji
      cases f with
      | zero => rw [H.1] at hjr; cases hjr
      | succ f =>
        obtain ⟨hun, oj, hoj, hall⟩ := mem_ready.1 hj
        have hli := (mem_ready.1 hr).1
        have hlf : listed.getD i false = false := by
          rcases Nat.lt_or_ge i listed.size with c | c
          · simpa [c] using hli
          · simp [Array.getElem?_eq_none c]
        have hno : ∀ e ∈ oj.after, Region.binds md e = true → e.on ≠ i := fun e he hb hon => by
          have := hall e he hb
          rw [hon, hlf] at this
          cases this
        have hjT : E j = true := by
          cases hE : E j with
          | true => rfl
          | false =>
            have h1 := List.all_eq_true.1 hw j (List.mem_range.2 (Array.getElem?_eq_some_iff.1 hoj).1)
            rw [hE, Bool.false_or] at h1
            have := reach_listed hc _ j oj hoj hall h1
            rw [hlf] at this
            cases this
        have hsel := Region.noSelect_spec hs
        have h2 := wpOp_putIf hoj (hfree j oj hoj hji hun hno) (fun cs b => hsel i oi cs b hi) (fun cs b => hsel j oj cs b hoj) hQ hy (H.2 j hjr)
        refine wpOp_mono (fun a' w' q => ⟨fun _ _ => q.2.1 hjT hS, ?_⟩) h2
        refine wpE.first hi hs hQ hw f (listed.setIfInBounds j true) a' w' (hc.step hj) (fun k ok hk hki huk hnk => ?_) (ready_mono hr (fun e => hji e.symm)) q.1 (q.2.1 hjT hS) ?_
        · rcases Decidable.em (j = k) with e | hjk
          · exact hfree k ok hk hki (by rw [← e]; exact hun) hnk
          · exact hfree k ok hk hki (by rw [getD_set_ne true hjk] at huk; exact huk) hnk
        · rw [Array.setIfInBounds_comm _ _ hji]
          exact q.2.2
theorem wpE.take {i : Nat} {oi : Oper} {v : Value} {f : Nat} {listed : Array Bool} {a : Act} {w : World} (hi : ops[i]? = some oi)
    (hs : Region.noSelect ops = true) (hw : waitsE md ops E i = true) (hc : closedB md ops listed = true) (hf : Region.free md ops listed i = true) (hr : (Region.ready md ops listed).contains i = true)
    (hQ : ∀ c a w, Q (.panic c) (a.put oi.dst v) w → Q (.panic c) a w) (hy : YieldsIf P ops S oi v a) (hS : S w)
    (h : wpE P md ops Q E S f (listed.setIfInBounds i true) (a.put oi.dst v) w) : wpE P md ops Q E S (f + 1) listed a w :=
  wpE.first hi hs hQ hw f listed a w (Closed.of hc) (Region.free_spec hi hf) (by simpa using hr) hy hS h
/-- what reads no memory may be taken at any time -/
theorem wpE.freely {i : Nat} {oi : Oper} {v : Value} (hi : ops[i]? = some oi) (hs : Region.noSelect ops = true) (hQ : ∀ c a w, Q (.panic c) (a.put oi.dst v) w → Q (.panic c) a w) :
    ∀ (f : Nat) (listed : Array Bool) (a : Act) (w : World),
      (∀ j oj, ops[j]? = some oj → j ≠ i → listed.getD j true = false → (∀ e ∈ oj.after, Region.binds md e = true → e.on ≠ i) → oi.apart ops oj = true) →
      i ∈ Region.ready md ops listed → YieldsIf P ops (fun _ => True) oi v a → wpE P md ops Q E S f (listed.setIfInBounds i true) (a.put oi.dst v) w → wpE P md ops Q E S (f + 1) listed a w
  | f, listed, a, w, hfree, hr, hy, H => by
    refine ⟨fun q => (by rw [q] at hr; cases hr), fun j hj => ?_⟩
    rcases Decidable.em (j = i) with e | hji
    · rw [e]
      exact hy.wpOp hi trivial ⟨fun _ h => h, H⟩
    · have hjr := ready_mono hj hji
      cases f with
      | zero => rw [H.1] at hjr; cases hjr
      | succ f =>
        obtain ⟨hun, oj, hoj, hall⟩ := mem_ready.1 hj
        have hli := (mem_ready.1 hr).1
        have hlf : listed.getD i false = false := by
          rcases Nat.lt_or_ge i listed.size with c | c
          · simpa [c] using hli
          · simp [Array.getElem?_eq_none c]
        have hno : ∀ e ∈ oj.after, Region.binds md e = true → e.on ≠ i := fun e he hb hon => by
          have := hall e he hb
          rw [hon, hlf] at this
          cases this
        have hsel := Region.noSelect_spec hs
        have h2 := wpOp_putIf hoj (hfree j oj hoj hji hun hno) (fun cs b => hsel i oi cs b hi) (fun cs b => hsel j oj cs b hoj) hQ hy (H.2 j hjr)
        refine wpOp_mono (fun a' w' q => ⟨q.2.1, ?_⟩) h2
        refine wpE.freely hi hs hQ f (listed.setIfInBounds j true) a' w' (fun k ok hk hki huk hnk => ?_) (ready_mono hr (fun e => hji e.symm)) q.1 ?_
        · rcases Decidable.em (j = k) with e | hjk
          · exact hfree k ok hk hki (by rw [← e]; exact hun) hnk
          · exact hfree k ok hk hki (by rw [getD_set_ne true hjk] at huk; exact huk) hnk
        · rw [Array.setIfInBounds_comm _ _ hji]
          exact q.2.2
theorem wpE.move {i : Nat} {oi : Oper} {v : Value} {f : Nat} {listed : Array Bool} {a : Act} {w : World} (hi : ops[i]? = some oi)
    (hs : Region.noSelect ops = true) (hf : Region.free md ops listed i = true) (hr : (Region.ready md ops listed).contains i = true)
    (hQ : ∀ c a w, Q (.panic c) (a.put oi.dst v) w → Q (.panic c) a w) (hy : YieldsIf P ops (fun _ => True) oi v a)
    (h : wpE P md ops Q E S f (listed.setIfInBounds i true) (a.put oi.dst v) w) : wpE P md ops Q E S (f + 1) listed a w :=
  wpE.freely hi hs hQ f listed a w (Region.free_spec hi hf) (by simpa using hr) hy h
/-- the one operation that may come up, that is early -/
theorem wpE.one {i : Nat} {o : Oper} {f : Nat} {listed : Array Bool} {a : Act} {w : World} (ho : ops[i]? = some o) (hr : Region.ready md ops listed = [i])
    (h : ∀ K' : Act → World → Prop, Shut (∀ a w, S w → (S w → wpE P md ops Q E S f (listed.setIfInBounds i true) a w) → K' a w) → if Region.wanted o (yielded ops a.tmps) = true then Oper.wp P o a w K' Q else K' (a.put o.dst undef) w) : wpE P md ops Q E S (f + 1) listed a w :=
  ⟨fun q => (by rw [hr] at q; cases q), fun j hj => by
    rw [hr] at hj
    obtain rfl : j = i := by simpa using hj
    exact wpOp_step ho (fun K' hK => h K' (fun a w hS hW => hK a w ⟨fun _ _ => hS, hW hS⟩))⟩
/-- the one operation that may come up, that is not early -/
theorem wpE.late {i : Nat} {o : Oper} {f : Nat} {listed : Array Bool} {a : Act} {w : World} (hi : E i = false) (ho : ops[i]? = some o) (hr : Region.ready md ops listed = [i])
    (h : ∀ K' : Act → World → Prop, Shut (∀ a w, wpE P md ops Q E S f (listed.setIfInBounds i true) a w → K' a w) → if Region.wanted o (yielded ops a.tmps) = true then Oper.wp P o a w K' Q else K' (a.put o.dst undef) w) : wpE P md ops Q E S (f + 1) listed a w :=
  ⟨fun q => (by rw [hr] at q; cases q), fun j hj => by
    rw [hr] at hj
    obtain rfl : j = i := by simpa using hj
    exact wpOp_step ho (fun K' hK => h K' (fun a w hW => hK a w ⟨fun n => (by rw [hi] at n; cases n), hW⟩))⟩
end
end Go.Proofs.Ytpfejjkoemnmiaa
