/-
  Package name, plainly: the names of registers, labels, mnemonics; what follows. No Go function is named here.
-/
import Derived.Test.YtpbgniffjlcbhaaDoorLeP
namespace Go.Proofs.YtpbgniffjlcbhaaDoor
set_option linter.unusedVariables false
set_option linter.unusedSimpArgs false
set_option maxRecDepth 100000
/-- P13.1 -/
def Na.rn (n : Int) : List Int := if n < 0 ∨ 15 < n then [] else if 9 < n then [82, 49, 48 + (n - 10)] else [82, 48 + n]
def Na.sixteen : List Int := [0, 1, 2, 3, 4, 5, 6, 7, 8, 9, 10, 11, 12, 13, 14, 15]
def Na.reg (xs : List Int) : Option Int := Na.sixteen.find? fun n => decide (Na.rn n = xs)
/-- P13.2, as the document's answer has it -/
def Na.label (xs : List Int) : Bool := if 0 < xs.length ∧ xs.getD 0 0 = 95 then L.name (97 :: xs.drop 1) else L.name xs
/-- P13.3 -/
def Na.conds : List Int := [77, 73, 69, 81, 67, 83, 86, 83, 76, 83, 76, 84, 76, 69, 32, 32, 80, 76, 78, 69, 67, 67, 86, 67, 72, 73, 71, 69, 71, 84, 78, 86]
def Na.ops : List Int := [77, 79, 86, 76, 83, 76, 65, 83, 82, 82, 79, 82, 65, 78, 68, 65, 78, 78, 73, 79, 82, 88, 79, 82, 65, 68, 68, 83, 85, 66, 77, 85, 76, 68, 73, 86]
def Na.mems : List Int := [76, 68, 87, 76, 68, 66, 83, 84, 87, 83, 84, 66]
def Na.mn (k o : Int) (u : Bool) : List Int :=
  if k = 7 ∧ 0 ≤ o ∧ o ≤ 15 then (if u then [66, 76] else [66]) ++ (if o = 7 then [] else (Na.conds.drop (2 * o.toNat)).take 2)
  else if k = 1 ∧ u = true ∧ o = 0 then [77, 79, 86, 85]
  else if k = 1 ∧ u = true ∧ o = 8 then [65, 68, 67]
  else if k = 1 ∧ u = true ∧ o = 9 then [83, 66, 67]
  else if k = 1 ∧ u = true ∧ o = 10 then [77, 76, 85]
  else if u = true then []
  else if k = 1 ∧ 0 ≤ o ∧ o ≤ 11 then (Na.ops.drop (3 * o.toNat)).take 3
  else if k = 5 ∧ 0 ≤ o ∧ o ≤ 3 then (Na.mems.drop (3 * o.toNat)).take 3
  else if o ≠ 0 then []
  else if k = 3 then [77, 79, 86, 72]
  else if k = 4 then [77, 79, 86, 70]
  else if k = 8 then [76, 68, 76]
  else if k = 9 then [119, 111, 114, 100]
  else if k = 10 then [101, 120, 112, 111, 114, 116]
  else []
/-- the kinds and operations in the order in which the document looks -/
def Na.eleven : List Int := [0, 1, 2, 3, 4, 5, 6, 7, 8, 9, 10]
def Na.every : List (Int × Int × Bool) := Na.eleven.flatMap fun k => Na.sixteen.flatMap fun o => [(k, o, false), (k, o, true)]
def Na.of (xs : List Int) : Option (Int × Int × Bool) := if xs = [] then none else Na.every.find? fun t => decide (Na.mn t.1 t.2.1 t.2.2 = xs)
/-- those that are a mnemonic's -/
def Na.yes : List (Int × Int × Bool) := Na.every.filter fun t => decide (Na.mn t.1 t.2.1 t.2.2 ≠ [])
theorem Na.yes_len : Na.yes.length = 57 := by decide +kernel
theorem Na.mem_every {k o : Int} (u : Bool) (hk : 0 ≤ k ∧ k ≤ 10) (ho : 0 ≤ o ∧ o ≤ 15) : (k, o, u) ∈ Na.every := by
  have h1 : k ∈ Na.eleven := by unfold Na.eleven; simp only [List.mem_cons, List.not_mem_nil, or_false]; omega
  have h2 : o ∈ Na.sixteen := by unfold Na.sixteen; simp only [List.mem_cons, List.not_mem_nil, or_false]; omega
  refine List.mem_flatMap.2 ⟨k, h1, List.mem_flatMap.2 ⟨o, h2, ?_⟩⟩
  cases u <;> simp
/-- what has a mnemonic is one of those -/
theorem Na.mn_box {k o : Int} {u : Bool} (h : Na.mn k o u ≠ []) : (0 ≤ k ∧ k ≤ 10) ∧ 0 ≤ o ∧ o ≤ 15 := by
  unfold Na.mn at h
  by_cases c0 : k = 7 ∧ 0 ≤ o ∧ o ≤ 15
  · clear h; omega
  rw [if_neg c0] at h
  by_cases c1 : k = 1 ∧ u = true ∧ o = 0
  · clear h; omega
  rw [if_neg c1] at h
  by_cases c2 : k = 1 ∧ u = true ∧ o = 8
  · clear h; omega
  rw [if_neg c2] at h
  by_cases c3 : k = 1 ∧ u = true ∧ o = 9
  · clear h; omega
  rw [if_neg c3] at h
  by_cases c4 : k = 1 ∧ u = true ∧ o = 10
  · clear h; omega
  rw [if_neg c4] at h
  by_cases c5 : u = true
  · rw [if_pos c5] at h; exact absurd rfl h
  rw [if_neg c5] at h
  by_cases c6 : k = 1 ∧ 0 ≤ o ∧ o ≤ 11
  · clear h; omega
  rw [if_neg c6] at h
  by_cases c7 : k = 5 ∧ 0 ≤ o ∧ o ≤ 3
  · clear h; omega
  rw [if_neg c7] at h
  by_cases c8 : o ≠ 0
  · rw [if_pos c8] at h; exact absurd rfl h
  rw [if_neg c8] at h
  by_cases c9 : k = 3
  · clear h; omega
  rw [if_neg c9] at h
  by_cases c10 : k = 4
  · clear h; omega
  rw [if_neg c10] at h
  by_cases c11 : k = 8
  · clear h; omega
  rw [if_neg c11] at h
  by_cases c12 : k = 9
  · clear h; omega
  rw [if_neg c12] at h
  by_cases c13 : k = 10
  · clear h; omega
  rw [if_neg c13] at h
  exact absurd rfl h
theorem Na.back_all : ∀ t ∈ Na.yes, Na.of (Na.mn t.1 t.2.1 t.2.2) = some t := by decide +kernel
/-- each mnemonic is its own -/
theorem Na.back {k o : Int} {u : Bool} (h : Na.mn k o u ≠ []) : Na.of (Na.mn k o u) = some (k, o, u) := by
  obtain ⟨h1, h2⟩ := Na.mn_box h
  exact Na.back_all (k, o, u) (List.mem_filter.2 ⟨Na.mem_every u h1 h2, decide_eq_true h⟩)
theorem Na.mn_inj {k o k' o' : Int} {u u' : Bool} (h : Na.mn k o u ≠ []) (e : Na.mn k o u = Na.mn k' o' u') : k = k' ∧ o = o' ∧ u = u' := by
  have h1 := Na.back h
  have h2 := Na.back (k := k') (o := o') (u := u') (e ▸ h)
  rw [e, h2] at h1
  simp only [Option.some.injEq, Prod.mk.injEq] at h1
  exact ⟨h1.1.symm, h1.2.1.symm, h1.2.2.symm⟩
theorem Na.of_some {xs : List Int} {k o : Int} {u : Bool} (h : Na.of xs = some (k, o, u)) : xs = Na.mn k o u ∧ xs ≠ [] := by
  unfold Na.of at h
  split at h
  · cases h
  · rename_i hx
    have := List.find?_some h
    exact ⟨(of_decide_eq_true this).symm, hx⟩
theorem Na.of_none {xs : List Int} (h : Na.of xs = none) (k o : Int) (u : Bool) : xs ≠ Na.mn k o u ∨ xs = [] := by
  by_cases c : xs = []
  · exact Or.inr c
  · refine Or.inl fun e => ?_
    rw [e] at h c
    rw [Na.back c] at h
    cases h
/-- all mnemonics are labels, four bytes or fewer but for one -/
theorem Na.label_all : ∀ t ∈ Na.yes, Na.label (Na.mn t.1 t.2.1 t.2.2) = true ∧ ((Na.mn t.1 t.2.1 t.2.2).length ≤ 4 ∨ t = (10, 0, false)) := by decide +kernel
/-- registers -/
theorem Na.reg_back : ∀ n ∈ Na.sixteen, Na.reg (Na.rn n) = some n ∧ Na.label (Na.rn n) = false := by decide +kernel
theorem Na.reg_some {xs : List Int} {n : Int} (h : Na.reg xs = some n) : xs = Na.rn n ∧ n ∈ Na.sixteen := by
  unfold Na.reg at h
  have h1 := List.find?_some h
  exact ⟨(of_decide_eq_true h1).symm, List.mem_of_find?_eq_some h⟩
/-- P13.2, as the chapter has it -/
theorem Na.label_eq (xs : List Int) : Na.label xs = (decide (1 ≤ xs.length ∧ xs.length ≤ 12) && (L.letter (xs.getD 0 0) || decide (xs.getD 0 0 = 95)) && !L.reg xs && xs.all L.part) := by
  unfold Na.label
  cases xs with
  | nil => rfl
  | cons x r =>
    by_cases c : x = 95
    · subst c
      have h1 : L.reg (97 :: r) = false := by
        unfold L.reg
        simp
      have h2 : L.reg (95 :: r) = false := by
        unfold L.reg
        simp
      rw [if_pos ⟨by simp, rfl⟩]
      unfold L.name
      rw [h2, show (95 :: r).drop 1 = r from rfl, h1]
      simp [L.part, L.letter]
    · rw [if_neg (by simp [c])]
      unfold L.name
      simp [c]
/-- sixteen registers, and one or two digits more -/
def Na.tens : List Int := [48, 49, 50, 51, 52, 53, 54, 55, 56, 57]
theorem Na.regs_all : ∀ k ∈ Na.sixteen, ∀ d ∈ Na.tens, Na.reg (Na.rn k ++ [d]) = (if k = 1 ∧ d < 54 then some (10 + (d - 48)) else none) ∧ Na.reg (82 :: 48 :: [d]) = none ∧ Na.reg [114, d] = none ∧ Na.label [82, d, d] = false ∧ Na.label [82, d, d, d] = true ∧ Na.label [114, d] = true ∧ Na.rn (16 + k) = [] ∧ Na.rn (-1 - k) = [] := by decide +kernel
/-- a label with a byte more -/
theorem Na.label_snoc {l : List Int} (h : Na.label l = true) (c : Int) : Na.label (l ++ [c]) = (L.part c && decide (l.length + 1 ≤ 12) && !(L.digit c && (decide (l = [82]) || (decide (l.length = 2) && decide (l.getD 0 0 = 82) && L.digit (l.getD 1 0))))) := by
  rw [Na.label_eq] at h ⊢
  simp only [Bool.and_eq_true, decide_eq_true_eq] at h
  obtain ⟨⟨⟨⟨h1, h2⟩, h3⟩, h4⟩, h5⟩ := h
  cases l with
  | nil => simp at h1
  | cons x r =>
    have e1 : ((x :: r) ++ [c]).getD 0 0 = x := rfl
    have e2 : ((x :: r) ++ [c]).all L.part = L.part c := by rw [List.all_append, h5]; simp
    have e3 : (L.letter x || decide (x = 95)) = true := h3
    have e4 : ((x :: r) ++ [c]).length = r.length + 2 := by simp
    rw [e1, e2, e3, e4]
    have e5 : L.reg ((x :: r) ++ [c]) = (L.digit c && (decide ((x :: r) = [82]) || (decide ((x :: r).length = 2) && decide ((x :: r).getD 0 0 = 82) && L.digit ((x :: r).getD 1 0)))) := by
      unfold L.reg
      match r with
      | [] => cases hd : L.digit c <;> simp [hd]
      | [y] => cases hd : L.digit c <;> cases hy : L.digit y <;> simp [hd, hy]
      | y :: z :: r' => simp
    rw [e5]
    have e6 : (x :: r).length + 1 = r.length + 2 := rfl
    rw [e6]
    have e7 : decide (1 ≤ r.length + 2 ∧ r.length + 2 ≤ 12) = decide (r.length + 2 ≤ 12) := decide_eq_decide.2 ⟨fun q => q.2, fun q => ⟨by omega, q⟩⟩
    rw [e7]
    cases L.part c <;> cases decide (r.length + 2 ≤ 12) <;> simp
theorem Na.label_bad {l : List Int} (c : Int) (k : Nat) (hc : L.part c = false) : Na.label (l.take k ++ [c] ++ l.drop k) = false := by
  rw [Na.label_eq, List.all_append, List.all_append]
  simp [hc]
theorem Na.label_none : Na.label [] = false := rfl
theorem Na.label_one (l : List Int) : Na.label (49 :: l) = false := by
  rw [Na.label_eq]
  simp [L.letter]
/-- a name is a label; and so is one with an underscore ahead -/
theorem Na.label_name {l : List Int} (h : L.name l = true) : Na.label l = true := by
  unfold Na.label
  split
  · rename_i q
    unfold L.name at h
    rw [q.2] at h
    simp [L.letter] at h
  · exact h
theorem Na.label_under {l : List Int} (h : L.name l = true) : Na.label (95 :: l.take 11) = true := by
  rw [Na.label_eq]
  unfold L.name at h
  simp only [Bool.and_eq_true, decide_eq_true_eq] at h
  obtain ⟨⟨⟨⟨h1, h2⟩, h3⟩, h4⟩, h5⟩ := h
  have e1 : (95 :: l.take 11).all L.part = true := by
    rw [List.all_cons, show L.part 95 = true from rfl, Bool.true_and, List.all_eq_true]
    intro x hx
    exact List.all_eq_true.1 h5 x (List.mem_of_mem_take hx)
  have e2 : L.reg (95 :: l.take 11) = false := by unfold L.reg; simp
  rw [e1, e2]
  simp
  omega
end Go.Proofs.YtpbgniffjlcbhaaDoor
