/-
  A region that draws its order and whose LAST operations (from number T on; they wait for all others) break the condition under which the others commute: 's.f = append(s.f, x)', where the field that is stored, and the row that is appended to, are read on the way. The condition is asked behind every operation but those. No Go text is named here.
-/
import Derived.Test.YtmdknjfhdmigdaaRow0
import Derived.OrdersHeld
import Derived.Deep.RegionHeld
namespace Go.Proofs.Ytmdknjfhdmigdaa
open Go.RowKit
set_option linter.unusedVariables false
set_option linter.unusedSimpArgs false
set_option maxRecDepth 100000
section
variable {P : Program} {md : Region.Mode} {ops : Array Oper} {Q : Exit → Act → World → Prop} {T : Nat} {S S' : World → Prop}
/-- whatever comes up from here on; behind each operation ahead of T the world meets S -/
def wpT (P : Program) (md : Region.Mode) (ops : Array Oper) (Q : Exit → Act → World → Prop) (T : Nat) (S : World → Prop) : Nat → Array Bool → Act → World → Prop
  | 0, listed, a, w => Region.ready md ops listed = [] ∧ Q .normal a w
  | f + 1, listed, a, w =>
    (Region.ready md ops listed = [] → Q .normal a w) ∧
    ∀ i, i ∈ Region.ready md ops listed → wpOp P ops Q i (fun a' w' => (i < T → S w') ∧ wpT P md ops Q T S f (listed.setIfInBounds i true) a' w') a w
theorem wpT.any : ∀ (f : Nat) (listed : Array Bool) (a : Act) (w : World), wpT P md ops Q T S f listed a w → wpAny P md ops Q f listed a w
  | 0, _, _, _, h => h
  | f + 1, _, _, _, h => ⟨h.1, fun i hi => wpOp_mono (fun _ _ q => wpT.any f _ _ _ q.2) (h.2 i hi)⟩
theorem wpT.start {id : Nat} {a : Act} {w : World} (hm : P.follows .mixedOrders = true) (h : wpT P .any ops Q T S ops.size (Array.replicate ops.size false) a w.drew) : (Code.region id ops true).wp P Q a w :=
  wp_region_any hm (wpT.any _ _ _ _ h)
theorem wpT.done {listed : Array Bool} {a : Act} {w : World} (hr : Region.ready md ops listed = []) (h : Q .normal a w) : ∀ f, wpT P md ops Q T S f listed a w
  | 0 => ⟨hr, h⟩
  | _ + 1 => ⟨fun _ => h, fun i hi => by rw [hr] at hi; cases hi⟩
/-- what has come up is closed under what it waits for -/
def Closed (md : Region.Mode) (ops : Array Oper) (listed : Array Bool) : Prop := ∀ k o, ops[k]? = some o → listed.getD k false = true → ∀ e ∈ o.after, Region.binds md e = true → listed.getD e.on false = true
def closedB (md : Region.Mode) (ops : Array Oper) (listed : Array Bool) : Bool :=
  (List.range ops.size).all fun k => match ops[k]? with
    | some o => !listed.getD k false || o.after.all fun e => !Region.binds md e || listed.getD e.on false
    | none => true
theorem Closed.of {listed : Array Bool} (h : closedB md ops listed = true) : Closed md ops listed := fun k o ho hk e he hb => by
  have hlt : k < ops.size := (Array.getElem?_eq_some_iff.1 ho).1
  have h1 := List.all_eq_true.1 h k (List.mem_range.2 hlt)
  rw [ho] at h1
  simp only [hk, Bool.not_true, Bool.false_or, Array.all_eq_true'] at h1
  have h2 := h1 e he
  rw [hb] at h2
  simpa using h2
theorem Closed.step {listed : Array Bool} (h : Closed md ops listed) {j : Nat} (hj : j ∈ Region.ready md ops listed) : Closed md ops (listed.setIfInBounds j true) := fun k o ho hk e he hb => by
  obtain ⟨_, oj, hoj, hall⟩ := mem_ready.1 hj
  refine getD_set_true ?_
  rcases Decidable.em (j = k) with q | q
  · subst q
    rw [ho] at hoj
    cases hoj
    exact hall e he hb
  · rw [getD_set_ne false q] at hk
    exact h k o ho hk e he hb
/-- the operation t waits for i, by way of others -/
def reach (md : Region.Mode) (ops : Array Oper) : Nat → Nat → Nat → Bool
  | 0, _, _ => false
  | f + 1, t, i => match ops[t]? with
    | some o => o.after.any fun e => Region.binds md e && (e.on == i || reach md ops f e.on i)
    | none => false
theorem reach_listed {listed : Array Bool} (hc : Closed md ops listed) {i : Nat} : ∀ (f t : Nat) (o : Oper), ops[t]? = some o → (∀ e ∈ o.after, Region.binds md e = true → listed.getD e.on false = true) → reach md ops f t i = true → listed.getD i false = true
  | 0, _, _, _, _, h => by cases h
  | f + 1, t, o, ho, hall, h => by
    unfold reach at h
    rw [ho] at h
    simp only [Array.any_eq_true', Bool.and_eq_true, Bool.or_eq_true, beq_iff_eq] at h
    obtain ⟨e, he, hb, h⟩ := h
    have hl := hall e he hb
    rcases h with h | h
    · rw [← h]; exact hl
    · have hex : ∃ o', ops[e.on]? = some o' := by
        cases q : ops[e.on]? with
        | some o' => exact ⟨o', rfl⟩
        | none =>
          cases f with
          | zero => cases h
          | succ f => unfold reach at h; rw [q] at h; cases h
      obtain ⟨o', ho'⟩ := hex
      exact reach_listed hc f e.on o' ho' (fun e' he' hb' => hc e.on o' ho' hl e' he' hb') h
/-- all from T on wait for i -/
def waits (md : Region.Mode) (ops : Array Oper) (T i : Nat) : Bool := (List.range ops.size).all fun t => decide (t < T) || reach md ops ops.size t i
/-- what only reads may be taken first, where all from T on wait for it -/
theorem wpT.first {i : Nat} {oi : Oper} {v : Value} (hi : ops[i]? = some oi) (hs : Region.noSelect ops = true) (hQ : ∀ c a w, Q (.panic c) (a.put oi.dst v) w → Q (.panic c) a w) (hw : waits md ops T i = true) :
    ∀ (f : Nat) (listed : Array Bool) (a : Act) (w : World), Closed md ops listed →
      (∀ j oj, ops[j]? = some oj → j ≠ i → listed.getD j true = false → (∀ e ∈ oj.after, Region.binds md e = true → e.on ≠ i) → oi.apart ops oj = true) →
      i ∈ Region.ready md ops listed → YieldsIf P ops S oi v a → S w → wpT P md ops Q T S f (listed.setIfInBounds i true) (a.put oi.dst v) w → wpT P md ops Q T S (f + 1) listed a w
  | f, listed, a, w, hc, hfree, hr, hy, hS, H => by
    refine ⟨fun q => (by rw [q] at hr; cases hr), fun j hj => ?_⟩
    rcases Decidable.em (j = i) with e | hji
    · rw [e]
      exact hy.wpOp hi hS ⟨fun _ => hS, H⟩
    · have hjr := ready_mono hj hji
      cases f with
      | zero => rw [H.1] at hjr; cases hjr
      | succ f =>
        obtain ⟨hun, oj, hoj, hall⟩ := mem_ready.1 hj
        have hli := (mem_ready.1 hr).1
        have hlf : listed.getD i false = false := by
          rcases Nat.lt_or_ge i listed.size with c | c
          · simpa [c] using hli
          · simp [Array.getElem?_eq_none c]
        have hno : ∀ e ∈ oj.after, Region.binds md e = true → e.on ≠ i := fun e he hb hon => by
          have := hall e he hb
          rw [hon, hlf] at this
          cases this
        have hjT : j < T := by
          apply Classical.byContradiction
          intro hge
          have h1 := List.all_eq_true.1 hw j (List.mem_range.2 (Array.getElem?_eq_some_iff.1 hoj).1)
          rw [decide_eq_false hge, Bool.false_or] at h1
          have := reach_listed hc _ j oj hoj hall h1
          rw [hlf] at this
          cases this
        have hsel := Region.noSelect_spec hs
        have h2 := wpOp_putIf hoj (hfree j oj hoj hji hun hno) (fun cs b => hsel i oi cs b hi) (fun cs b => hsel j oj cs b hoj) hQ hy (H.2 j hjr)
        refine wpOp_mono (fun a' w' q => ⟨fun _ => q.2.1 hjT, ?_⟩) h2
        refine wpT.first hi hs hQ hw f (listed.setIfInBounds j true) a' w' (hc.step hj) (fun k ok hk hki huk hnk => ?_) (ready_mono hr (fun e => hji e.symm)) q.1 (q.2.1 hjT) ?_
        · rcases Decidable.em (j = k) with e | hjk
          · exact hfree k ok hk hki (by rw [← e]; exact hun) hnk
          · exact hfree k ok hk hki (by rw [getD_set_ne true hjk] at huk; exact huk) hnk
        · rw [Array.setIfInBounds_comm _ _ hji]
          exact q.2.2
theorem wpT.take {i : Nat} {oi : Oper} {v : Value} {f : Nat} {listed : Array Bool} {a : Act} {w : World} (hi : ops[i]? = some oi)
    (hs : Region.noSelect ops = true) (hw : waits md ops T i = true) (hc : closedB md ops listed = true) (hf : Region.free md ops listed i = true) (hr : (Region.ready md ops listed).contains i = true)
    (hQ : ∀ c a w, Q (.panic c) (a.put oi.dst v) w → Q (.panic c) a w) (hy : YieldsIf P ops S oi v a) (hS : S w)
    (h : wpT P md ops Q T S f (listed.setIfInBounds i true) (a.put oi.dst v) w) : wpT P md ops Q T S (f + 1) listed a w :=
  wpT.first hi hs hQ hw f listed a w (Closed.of hc) (Region.free_spec hi hf) (by simpa using hr) hy hS h
/-- the one operation that may come up, ahead of T -/
theorem wpT.one {i : Nat} {o : Oper} {f : Nat} {listed : Array Bool} {a : Act} {w : World} (ho : ops[i]? = some o) (hr : Region.ready md ops listed = [i])
    (h : ∀ K' : Act → World → Prop, Shut (∀ a w, S w → (S w → wpT P md ops Q T S f (listed.setIfInBounds i true) a w) → K' a w) → if Region.wanted o (yielded ops a.tmps) = true then Oper.wp P o a w K' Q else K' (a.put o.dst undef) w) : wpT P md ops Q T S (f + 1) listed a w :=
  ⟨fun q => (by rw [hr] at q; cases q), fun j hj => by
    rw [hr] at hj
    obtain rfl : j = i := by simpa using hj
    exact wpOp_step ho (fun K' hK => h K' (fun a w hS hW => hK a w ⟨fun _ => hS, hW hS⟩))⟩
/-- the one operation that may come up, from T on -/
theorem wpT.late {i : Nat} {o : Oper} {f : Nat} {listed : Array Bool} {a : Act} {w : World} (hi : T ≤ i) (ho : ops[i]? = some o) (hr : Region.ready md ops listed = [i])
    (h : ∀ K' : Act → World → Prop, Shut (∀ a w, wpT P md ops Q T S f (listed.setIfInBounds i true) a w → K' a w) → if Region.wanted o (yielded ops a.tmps) = true then Oper.wp P o a w K' Q else K' (a.put o.dst undef) w) : wpT P md ops Q T S (f + 1) listed a w :=
  ⟨fun q => (by rw [hr] at q; cases q), fun j hj => by
    rw [hr] at hj
    obtain rfl : j = i := by simpa using hj
    exact wpOp_step ho (fun K' hK => h K' (fun a w hW => hK a w ⟨fun n => absurd hi (by omega), hW⟩))⟩
end
end Go.Proofs.Ytmdknjfhdmigdaa
