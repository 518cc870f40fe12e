/-
  Joined: Le6, LeQ.
-/
import Derived.Test.YtpfejjkoemnmiaaM05
/-
  The contract of the document's TakeName; the document's example, the head of all laws.
-/
namespace Go.Proofs.Ytpfejjkoemnmiaa
open Go.RowKit
set_option linter.unusedVariables false
set_option linter.unusedSimpArgs false
set_option maxRecDepth 100000
set_option maxRecDepth 100000
theorem Rw.of {k : IntKind} {L : Int} {w : World} {g : Nat} {t : TypeId} (xs : List Int) (h : Has g (xs.map (Value.int k)).toArray t w) (hm : xs.length ≤ maxLen) (hr : ∀ x ∈ xs, 0 ≤ x ∧ x < L) : Rw k L w (some ⟨g, 0, none⟩) xs.length xs.length xs :=
  ⟨rfl, Nat.le_refl _, hm, by simp, hr, fun ad e j y hy => by
    cases e
    rw [show (⟨g, 0, none⟩ : Addr).add j = ⟨g, j, none⟩ by cases j <;> simp [Addr.add]]
    exact h.cell j _ (by rw [List.getElem?_toArray, List.getElem?_map, hy]; rfl)⟩
theorem L.shown_1 : L.pnE (L.bs ⟨#[97, 98]⟩) = 0 ∧ L.pnB (L.bs ⟨#[97, 98]⟩) = [2, 97, 98, 0] := by decide
theorem L.shown_2 : L.tnV [2, 97, 98, 0, 9] = .tuple #[.string ⟨#[97, 98]⟩, .int .i64 4, .int .i64 0] := by
  rw [L.tnV_ok (by decide)]; rfl
theorem L.shown_3 : L.put [67305985] = [1, 2, 3, 4] := by decide
theorem L.shown_4 : strOfNums [2, 97, 98, 0] = ⟨#[2, 97, 98, 0]⟩ := rfl
theorem L.shown_5 : strOfNums [1, 2, 3, 4] = ⟨#[1, 2, 3, 4]⟩ := rfl
end Go.Proofs.Ytpfejjkoemnmiaa
/-
  What follows, plainly: words and names are taken as they were put; what is taken has just these bytes.
-/
namespace Go.Proofs.Ytpfejjkoemnmiaa
open Go.RowKit
set_option linter.unusedVariables false
set_option linter.unusedSimpArgs false
set_option maxRecDepth 100000
theorem L.byt_append {xs ys : List Int} (h : ∀ x ∈ xs, 0 ≤ x ∧ x < 256) (k : ∀ x ∈ ys, 0 ≤ x ∧ x < 256) : ∀ x ∈ xs ++ ys, 0 ≤ x ∧ x < 256 := fun x hx => (List.mem_append.1 hx).elim (h x) (k x)
theorem L.first_cons (n : Nat) (xs : List Int) : L.first ((n : Int) :: xs) = n := by simp [L.first]
theorem L.nameB_cons (xs : List Int) : L.nameB xs = (xs.length : Int) :: (xs ++ List.replicate (L.whole xs.length - (1 + xs.length)) 0) := rfl
theorem L.tnX_cons (xs ys : List Int) : L.tnX ((xs.length : Int) :: (xs ++ ys)) = xs := by
  unfold L.tnX
  rw [L.first_cons, show 1 + xs.length = xs.length + 1 by omega, List.take_succ_cons, List.drop_succ_cons, List.drop_zero, List.take_append_of_le_length (Nat.le_refl _), List.take_length]
theorem L.tn_put (xs ys : List Int) (h : L.name xs = true) : L.tnV (L.nameB xs ++ ys) = .tuple #[.string (strOfNums xs), .int .i64 (L.whole xs.length : Int), .int .i64 0] := by
  have hl := L.nameB_len xs
  have hw := L.whole_le xs.length
  have e : L.nameB xs ++ ys = (xs.length : Int) :: (xs ++ (List.replicate (L.whole xs.length - (1 + xs.length)) 0 ++ ys)) := by
    rw [L.nameB_cons, List.cons_append, List.append_assoc]
  have hf : L.first (L.nameB xs ++ ys) = xs.length := by rw [e]; exact L.first_cons _ _
  have hX : L.tnX (L.nameB xs ++ ys) = xs := by rw [e]; exact L.tnX_cons _ _
  have hE : L.tnE (L.nameB xs ++ ys) = 0 := by
    refine L.tnE_ok (by rw [List.length_append]; omega) (by rw [hf, List.length_append]; omega) (by rw [hX]; exact h) ?_
    rw [hf, List.take_append_of_le_length (by omega), List.take_of_length_le (by omega), List.all_eq_true]
    intro z hz
    rw [L.nameB_cons, show 1 + xs.length = xs.length + 1 by omega, List.drop_succ_cons, List.drop_append_of_le_length (Nat.le_refl _), List.drop_length, List.nil_append] at hz
    exact decide_eq_true (List.eq_of_mem_replicate hz)
  rw [L.tnV_ok hE, hX, hf]
theorem L.tn_cut (xs : List Int) (i : Nat) (hi : i < L.whole xs.length) : L.tnV ((L.nameB xs).take i) = .tuple #[.string ⟨#[]⟩, .int .i64 0, .int .i64 3] := by
  have hl := L.nameB_len xs
  refine L.tnV_not (L.tnE_short ?_) (by decide)
  cases i with
  | zero => exact Or.inl rfl
  | succ i =>
    refine Or.inr ?_
    rw [L.nameB_cons, List.take_succ_cons, L.first_cons]
    have := List.length_take_le i (xs ++ List.replicate (L.whole xs.length - (1 + xs.length)) (0 : Int))
    simp only [List.length_cons]
    omega
theorem L.tk_put (ys bs : List Int) (h : ∀ x ∈ ys, 0 ≤ x ∧ x < 4294967296) : L.tkE (L.put ys ++ bs) (ys.length : Int) = 0 ∧ L.tkW (L.put ys ++ bs) (ys.length : Int) = ys := by
  have hl := L.put_len ys
  have := L.tk_yes (bs := L.put ys ++ bs) (n := ys.length) (by rw [List.length_append]; omega)
  rwa [L.words_put ys bs h] at this
theorem L.tk_cut (ys : List Int) (h : 0 < ys.length) : L.tkE ((L.put ys).take (4 * ys.length - 1)) (ys.length : Int) = 3 := by
  have hl := L.put_len ys
  refine (L.tk_no (Or.inr ?_)).1
  have : ((L.put ys).take (4 * ys.length - 1)).length = 4 * ys.length - 1 := by rw [List.length_take]; omega
  rw [this]
  omega
/-- words that were taken -/
theorem L.tk_taken (bs : List Int) (hb : L.Byt bs) (q : Nat) (h : L.tkE bs (q : Int) = 0) : (L.tkW bs (q : Int)).length = q ∧ 4 * q ≤ bs.length ∧ L.put (L.tkW bs (q : Int)) = bs.take (4 * q) := by
  unfold L.tkE at h
  split at h
  · cases h
  · rename_i h1
    have h2 : q ≤ bs.length / 4 := by omega
    rw [(L.tk_yes h2).2]
    exact ⟨by simp [L.words], by omega, L.put_words bs hb q (by omega)⟩
theorem L.tnE_cases (bs : List Int) : L.tnE bs = 3 ∨ L.tnE bs = 9 ∨ L.tnE bs = 6 ∨ (L.tnE bs = 0 ∧ ¬ bs.length = 0 ∧ ¬ bs.length < L.whole (L.first bs) ∧ L.name (L.tnX bs) = true ∧ ((bs.take (L.whole (L.first bs))).drop (1 + L.first bs)).all (fun x => decide (x = 0)) = true) := by
  unfold L.tnE
  by_cases h1 : bs.length = 0
  · rw [if_pos h1]; exact Or.inl rfl
  rw [if_neg h1]
  by_cases h2 : bs.length < L.whole (L.first bs)
  · rw [if_pos h2]; exact Or.inl rfl
  rw [if_neg h2]
  by_cases h3 : L.name (L.tnX bs) = true
  · rw [if_pos h3]
    by_cases h4 : ((bs.take (L.whole (L.first bs))).drop (1 + L.first bs)).all (fun x => decide (x = 0)) = true
    · rw [if_pos h4]; exact Or.inr (Or.inr (Or.inr ⟨rfl, h1, h2, h3, h4⟩))
    · rw [if_neg h4]; exact Or.inr (Or.inr (Or.inl rfl))
  · rw [if_neg h3]; exact Or.inr (Or.inl rfl)
/-- a name that was taken -/
theorem L.tn_taken (bs : List Int) (hb : L.Byt bs) (h1 : ¬ bs.length = 0) (h2 : ¬ bs.length < L.whole (L.first bs)) (h4 : ((bs.take (L.whole (L.first bs))).drop (1 + L.first bs)).all (fun x => decide (x = 0)) = true) : (L.tnX bs).length = L.first bs ∧ L.nameB (L.tnX bs) = bs.take (L.whole (L.first bs)) := by
  have hw := L.whole_le (L.first bs)
  have hl : (L.tnX bs).length = L.first bs := by unfold L.tnX; simp; omega
  refine ⟨hl, ?_⟩
  unfold L.nameB
  rw [hl]
  have e1 : (bs.take (L.whole (L.first bs))).drop (1 + L.first bs) = List.replicate (L.whole (L.first bs) - (1 + L.first bs)) 0 := by
    apply List.eq_replicate_iff.2
    refine ⟨by simp; omega, fun z hz => ?_⟩
    rw [List.all_eq_true] at h4
    exact of_decide_eq_true (h4 z hz)
  have e2 : bs.take (1 + L.first bs) = (L.first bs : Int) :: L.tnX bs := by
    unfold L.tnX L.first
    cases bs with
    | nil => exact absurd rfl h1
    | cons x r =>
      have hx := hb x (List.mem_cons_self)
      simp only [List.getD_cons_zero]
      rw [show 1 + x.toNat = x.toNat + 1 by omega, List.take_succ_cons, List.drop_succ_cons, List.drop_zero]
      rw [show (x.toNat : Int) = x by omega]
  rw [← e1, ← e2]
  have := List.take_append_drop (1 + L.first bs) (bs.take (L.whole (L.first bs)))
  rwa [List.take_take, Nat.min_eq_left (by omega)] at this
/-- a nought turned -/
theorem L.tn_set (xs : List Int) (h : L.name xs = true) (i : Nat) (h1 : 1 + xs.length ≤ i) (h2 : i < L.whole xs.length) (v : Int) (hv : ¬ v = 0) : L.tnV ((L.nameB xs).set i v) = .tuple #[.string ⟨#[]⟩, .int .i64 0, .int .i64 6] := by
  have hl := L.nameB_len xs
  have hw := L.whole_le xs.length
  obtain ⟨j, rfl⟩ : ∃ j, i = 1 + xs.length + j := ⟨i - (1 + xs.length), by omega⟩
  have e : (L.nameB xs).set (1 + xs.length + j) v = (xs.length : Int) :: (xs ++ (List.replicate (L.whole xs.length - (1 + xs.length)) 0).set j v) := by
    rw [L.nameB_cons, show 1 + xs.length + j = (xs.length + j) + 1 by omega, List.set_cons_succ, List.set_append_right _ _ (by omega), show xs.length + j - xs.length = j by omega]
  have hf : L.first ((L.nameB xs).set (1 + xs.length + j) v) = xs.length := by rw [e]; exact L.first_cons _ _
  have hX : L.tnX ((L.nameB xs).set (1 + xs.length + j) v) = xs := by rw [e]; exact L.tnX_cons _ _
  refine L.tnV_not (L.tnE_form (by rw [List.length_set]; omega) (by rw [hf, List.length_set]; omega) (by rw [hX]; exact h) ?_) (by decide)
  rw [hf, List.take_of_length_le (by rw [List.length_set]; omega)]
  refine all_not (k := j) (x := v) (p := fun x => decide (x = 0)) ?_ (decide_eq_false hv)
  rw [List.getElem?_drop, List.getElem?_set_self (by omega)]
theorem L.nameB_zero (xs : List Int) (i : Nat) (h1 : 1 + xs.length ≤ i) (h2 : i < L.whole xs.length) : (L.nameB xs)[i]? = some 0 := by
  obtain ⟨j, rfl⟩ : ∃ j, i = 1 + xs.length + j := ⟨i - (1 + xs.length), by omega⟩
  rw [L.nameB_cons, show 1 + xs.length + j = (xs.length + j) + 1 by omega, List.getElem?_cons_succ, List.getElem?_append_right (by omega), show xs.length + j - xs.length = j by omega, List.getElem?_replicate, if_pos (by omega)]
theorem L.nameB_mid (xs : List Int) : ((L.nameB xs).take (1 + xs.length)).drop 1 = xs := by
  have := L.tnX_cons xs (List.replicate (L.whole xs.length - (1 + xs.length)) 0)
  unfold L.tnX at this
  rwa [L.first_cons] at this
/-- the calls behind a name that was taken -/
theorem L.taken_name (bs : List Int) (hb : L.Byt bs) (h1 : ¬ bs.length = 0) (h2 : ¬ bs.length < L.whole (L.first bs)) (hn : L.name (L.tnX bs) = true) (h4 : ((bs.take (L.whole (L.first bs))).drop (1 + L.first bs)).all (fun x => decide (x = 0)) = true) :
    (∀ w, Calls Try.prog 38 #[.string (strOfNums (L.tnX bs))] w fun e w' => ∃ g cap, e = .returned (.tuple #[.slice (some ⟨g, 0, none⟩) (L.whole (L.first bs)) cap, .int .i64 0]) ∧ By w' (some ⟨g, 0, none⟩) (L.whole (L.first bs)) cap (bs.take (L.whole (L.first bs))) ∧ Below w.heap.size w w') ∧
    ∀ w, Calls Try.prog 57 #[.string (strOfNums (L.tnX bs))] w fun e w' => e = .returned (.bool true) ∧ w = w' := by
  obtain ⟨e1, e2⟩ := L.tn_taken bs hb h1 h2 h4
  have e3 := L.bs_str (L.tnX bs) (L.tnX_byt hb)
  have e4 : (strOfNums (L.tnX bs)).size = L.first bs := by rw [strOfNums_size, e1]
  have hl := (L.name_len hn).2
  refine ⟨fun w => ?_, fun w => ?_⟩
  · have := L.putName_yes (strOfNums (L.tnX bs)) (by rw [e3]; exact hn) w
    rwa [e4, e3, e2] at this
  · have := L.name_any (strOfNums (L.tnX bs)) (by rw [e4]; omega) w
    rwa [e3, hn] at this
section
variable {P : Program} {o : Oper} {a : Act} {K : Act → World → Prop} {Q : Exit → Act → World → Prop} {w : World}
/-- append, as a drawn region asks it -/
theorem wp_append_row {e t : TypeId} {k : IntKind} {L : Int} {by0 : Nat} (hu : P.underlying t = some (.slice e)) (hinf : (P.info? e).map (fun i => (i.zero, i.size, i.bytes)) = some (some (.int k 0), 1, by0)) (hby : by0 ≤ 8)
    (s x : Operand)
    (ho : o.op = .call { callee := .builtin .append, args := #[s, x], argTypes := #[t, t] }) (base g n cap : Nat) (xs : List Int) (hs : a.eval s = .slice (some ⟨g, 0, none⟩) n cap) (hown : Ow e k base g n cap xs w)
    (A : Option Addr) (m c : Nat) (ys : List Int) (hx : a.eval x = .slice A m c) (hY : Rw k L w A m c ys) (hb : n + m ≤ 1000000000000) (hbase : base ≤ w.heap.size)
    (h : ∀ g' cap' w', Ow e k base g' (n + m) cap' (xs ++ ys) w' → w.grownBy w' (some g) → K (a.put o.dst (.slice (some ⟨g', 0, none⟩) (n + m) cap')) w') : o.wp P a w K Q := by
  obtain ⟨i0, hi, hz0, hz1, hz2⟩ := info_parts hinf
  cases A with
  | none =>
    have hc := hY.nil rfl
    have hm : m = 0 := by have := hY.le; omega
    subst hc hm
    have hy : ys = [] := List.eq_nil_of_length_eq_zero hY.len
    subst hy
    have hrun := run_append_owned_none (P := P) (w := w) base t o.type e i0 1 hu hi _ n _ hown
    have := h g cap w (by rw [Nat.add_zero, List.append_nil]; exact hown) ⟨rfl, rfl, rfl, Nat.le_refl _, fun _ _ _ => rfl⟩
    unfold Oper.wp
    simp [execOp, ho, resolve, invoke, builtin, hs, hx, hrun, Result.andThen]
    exact this
  | some ad =>
    refine wp_append_own w s x t ho base e i0 (.int k 0) 1 by0 hu hi hz0 hz1 hz2 rfl (by decide) _ n (xs.map (Value.int k)) hs hown ad m c (ys.map (Value.int k)) hx (by rw [List.length_map, hY.len, Nat.mul_one]) ?_ ?_ (by unfold maxLen; omega) ?_ hbase ?_
    · intro j u hj
      rw [List.getElem?_map, Option.map_eq_some_iff] at hj
      obtain ⟨y, hy, rfl⟩ := hj
      exact hY.cel ad rfl j y hy
    · intro u hu
      obtain ⟨y, _, rfl⟩ := List.mem_map.1 hu
      rfl
    · have := Nat.mul_le_mul hb hby
      omega
    · intro v' w' h1 h2 h3
      have hv : ∃ g' cap', v' = .slice (some ⟨g', 0, none⟩) (n + m) cap' := by
        rcases h1.2 with ⟨h4, _⟩ | ⟨g', cap', cur, h4, _⟩
        · have := (h3.1 h4).1
          cases this
        · exact ⟨g', cap', h4⟩
      obtain ⟨g', cap', rfl⟩ := hv
      rw [← List.map_append] at h1
      exact h g' cap' w' h1 h2
end
theorem L.wor_append {xs ys : List Int} (h : ∀ x ∈ xs, 0 ≤ x ∧ x < 4294967296) (k : ∀ x ∈ ys, 0 ≤ x ∧ x < 4294967296) : ∀ x ∈ xs ++ ys, 0 ≤ x ∧ x < 4294967296 := fun x hx => (List.mem_append.1 hx).elim (h x) (k x)
end Go.Proofs.Ytpfejjkoemnmiaa
