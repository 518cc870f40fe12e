/-
  Layer 7 in plain functions on lists of numbers: words as bytes, names, their bytes. No Go text is named here.
-/
import Derived.Test.YtpbgniffjlcbhaaDoorLe0
namespace Go.Proofs.YtpbgniffjlcbhaaDoor
set_option linter.unusedVariables false
set_option linter.unusedSimpArgs false
set_option maxRecDepth 100000
def L.letter (c : Int) : Bool := (decide (65 ≤ c) && decide (c ≤ 90)) || (decide (97 ≤ c) && decide (c ≤ 122))
def L.digit (c : Int) : Bool := decide (48 ≤ c) && decide (c ≤ 57)
def L.part (c : Int) : Bool := L.letter c || L.digit c || decide (c = 95)
/-- R and one or two digits -/
def L.reg (xs : List Int) : Bool := decide (2 ≤ xs.length ∧ xs.length ≤ 3) && decide (xs.getD 0 0 = 82) && (xs.drop 1).all L.digit
def L.name (xs : List Int) : Bool := decide (1 ≤ xs.length ∧ xs.length ≤ 12) && L.letter (xs.getD 0 0) && !L.reg xs && xs.all L.part
/-- how many bytes a name of n takes up -/
def L.whole (n : Nat) : Nat := (n + 4) / 4 * 4
def L.nameB (xs : List Int) : List Int := ((xs.length : Int) :: xs) ++ List.replicate (L.whole xs.length - (1 + xs.length)) 0
def L.pnE (xs : List Int) : Int := if L.name xs = true then 0 else 9
def L.pnB (xs : List Int) : List Int := if L.name xs = true then L.nameB xs else []
/-- what a row of bytes begins with: the error, the name, how many bytes -/
def L.first (bs : List Int) : Nat := (bs.getD 0 0).toNat
def L.tnX (bs : List Int) : List Int := (bs.take (1 + L.first bs)).drop 1
def L.tnE (bs : List Int) : Int :=
  if bs.length = 0 then 3 else if bs.length < L.whole (L.first bs) then 3 else if L.name (L.tnX bs) = true then
    if ((bs.take (L.whole (L.first bs))).drop (1 + L.first bs)).all (fun x => decide (x = 0)) = true then 0 else 6 else 9
def L.tnS (bs : List Int) : List Int := if L.tnE bs = 0 then L.tnX bs else []
def L.tnN (bs : List Int) : Int := if L.tnE bs = 0 then (L.whole (L.first bs) : Int) else 0
/-- a word's bytes, and a word out of bytes -/
def L.four (x : Int) : List Int := [x % 256, x / 256 % 256, x / 65536 % 256, x / 16777216 % 256]
def L.put (xs : List Int) : List Int := xs.flatMap L.four
def L.word (bs : List Int) (p : Nat) : Int := bs.getD p 0 + 256 * bs.getD (p + 1) 0 + 65536 * bs.getD (p + 2) 0 + 16777216 * bs.getD (p + 3) 0
def L.words (bs : List Int) (n : Nat) : List Int := (List.range n).map fun i => L.word bs (4 * i)
def L.tkE (bs : List Int) (n : Int) : Int := if n < 0 ∨ ((bs.length / 4 : Nat) : Int) < n then 3 else 0
def L.tkW (bs : List Int) (n : Int) : List Int := if n < 0 ∨ ((bs.length / 4 : Nat) : Int) < n then [] else L.words bs n.toNat
def L.Byt (xs : List Int) : Prop := ∀ x ∈ xs, 0 ≤ x ∧ x < 256
theorem L.put_len (xs : List Int) : (L.put xs).length = 4 * xs.length := by
  induction xs with
  | nil => rfl
  | cons x xs ih =>
    rw [show L.put (x :: xs) = L.four x ++ L.put xs from rfl, List.length_append, ih]
    simp [L.four]; omega
theorem L.put_byt (xs : List Int) : ∀ x ∈ L.put xs, 0 ≤ x ∧ x < 256 := by
  intro x hx
  obtain ⟨y, _, hy⟩ := List.mem_flatMap.1 hx
  simp only [L.four, List.mem_cons, List.not_mem_nil, or_false] at hy
  rcases hy with rfl | rfl | rfl | rfl <;> omega
theorem L.put_append (xs ys : List Int) : L.put (xs ++ ys) = L.put xs ++ L.put ys := List.flatMap_append
theorem L.put_take (xs : List Int) (k : Nat) (x : Int) (hx : xs[k]? = some x) : L.put (xs.take (k + 1)) = L.put (xs.take k) ++ L.four x := by
  rw [List.take_add_one, hx, L.put_append]
  simp [L.put]
theorem L.getD_put (xs : List Int) : ∀ (i : Nat) (x : Int), xs[i]? = some x → ∀ j, j < 4 → (L.put xs)[4 * i + j]? = (L.four x)[j]? := by
  induction xs with
  | nil => intro i x h; simp at h
  | cons y ys ih =>
    intro i x hx j hj
    rw [show L.put (y :: ys) = L.four y ++ L.put ys from rfl]
    cases i with
    | zero =>
      simp at hx
      subst hx
      rw [List.getElem?_append_left (by simp [L.four]; omega)]
      simp
    | succ i =>
      rw [List.getElem?_append_right (by simp [L.four]; omega)]
      rw [show 4 * (i + 1) + j - (L.four y).length = 4 * i + j by simp [L.four]; omega]
      exact ih i x (by simpa using hx) j hj
theorem L.word_put (xs ys : List Int) (i : Nat) (x : Int) (hx : xs[i]? = some x) (h0 : 0 ≤ x) (h1 : x < 4294967296) : L.word (L.put xs ++ ys) (4 * i) = x := by
  have hl : i < xs.length := by
    rcases Nat.lt_or_ge i xs.length with h | h
    · exact h
    · rw [List.getElem?_eq_none h] at hx; cases hx
  have key : ∀ j, j < 4 → (L.put xs ++ ys).getD (4 * i + j) 0 = (L.four x).getD j 0 := fun j hj => by
    rw [List.getD_eq_getElem?_getD, List.getD_eq_getElem?_getD, List.getElem?_append_left (by rw [L.put_len]; omega), L.getD_put xs i x hx j hj]
  have k0 := key 0 (by omega)
  have k1 := key 1 (by omega)
  have k2 := key 2 (by omega)
  have k3 := key 3 (by omega)
  unfold L.word
  rw [Nat.add_zero] at k0
  rw [k0, k1, k2, k3]
  simp [L.four]
  omega
theorem L.words_put (xs ys : List Int) (h : ∀ x ∈ xs, 0 ≤ x ∧ x < 4294967296) : L.words (L.put xs ++ ys) xs.length = xs := by
  apply List.ext_getElem
  · simp [L.words]
  · intro i h1 h2
    simp only [L.words, List.getElem_map, List.getElem_range]
    have := h _ (List.getElem_mem h2)
    exact L.word_put xs ys i _ (List.getElem?_eq_getElem h2) this.1 this.2
theorem L.word_rng (bs : List Int) (hb : L.Byt bs) (p : Nat) : 0 ≤ L.word bs p ∧ L.word bs p < 4294967296 := by
  have key : ∀ q, 0 ≤ bs.getD q 0 ∧ bs.getD q 0 < 256 := fun q => by
    rw [List.getD_eq_getElem?_getD]
    cases h : bs[q]? with
    | none => simp
    | some x => exact hb x (List.mem_of_getElem? h)
  have k0 := key p
  have k1 := key (p + 1)
  have k2 := key (p + 2)
  have k3 := key (p + 3)
  unfold L.word
  omega
theorem L.words_rng (bs : List Int) (hb : L.Byt bs) (n : Nat) : ∀ x ∈ L.words bs n, 0 ≤ x ∧ x < 4294967296 := by
  intro x hx
  obtain ⟨i, _, rfl⟩ := List.mem_map.1 hx
  exact L.word_rng bs hb _
theorem L.four_word (bs : List Int) (hb : L.Byt bs) (p : Nat) (hp : p + 4 ≤ bs.length) : L.four (L.word bs p) = (bs.take (p + 4)).drop p := by
  have key : ∀ q, 0 ≤ bs.getD q 0 ∧ bs.getD q 0 < 256 := fun q => by
    rw [List.getD_eq_getElem?_getD]
    cases h : bs[q]? with
    | none => simp
    | some x => exact hb x (List.mem_of_getElem? h)
  have k0 := key p
  have k1 := key (p + 1)
  have k2 := key (p + 2)
  have k3 := key (p + 3)
  have e : (bs.take (p + 4)).drop p = [bs.getD p 0, bs.getD (p + 1) 0, bs.getD (p + 2) 0, bs.getD (p + 3) 0] := by
    apply List.ext_getElem
    · simp; omega
    · intro i h1 h2
      simp only [List.length_cons, List.length_nil] at h2
      rw [List.getElem_drop, List.getElem_take]
      match i, h2 with
      | 0, _ => simp [List.getD_eq_getElem?_getD, List.getElem?_eq_getElem (show p < bs.length by omega)]
      | 1, _ => simp [List.getD_eq_getElem?_getD, List.getElem?_eq_getElem (show p + 1 < bs.length by omega)]
      | 2, _ => simp [List.getD_eq_getElem?_getD, List.getElem?_eq_getElem (show p + 2 < bs.length by omega)]
      | 3, _ => simp [List.getD_eq_getElem?_getD, List.getElem?_eq_getElem (show p + 3 < bs.length by omega)]
  rw [e]
  unfold L.four L.word
  simp only [List.cons.injEq, and_true]
  refine ⟨?_, ?_, ?_, ?_⟩ <;> omega
theorem L.put_words (bs : List Int) (hb : L.Byt bs) : ∀ n, 4 * n ≤ bs.length → L.put (L.words bs n) = bs.take (4 * n)
  | 0, _ => by simp [L.words, L.put]
  | n + 1, h => by
    have ih := L.put_words bs hb n (by omega)
    rw [show L.words bs (n + 1) = L.words bs n ++ [L.word bs (4 * n)] by simp [L.words, List.range_succ], L.put_append, ih]
    rw [show L.put [L.word bs (4 * n)] = L.four (L.word bs (4 * n)) by simp [L.put], L.four_word bs hb (4 * n) (by omega)]
    rw [show 4 * (n + 1) = 4 * n + 4 by omega]
    have := List.take_append_drop (4 * n) (bs.take (4 * n + 4))
    rw [List.take_take, Nat.min_eq_left (by omega)] at this
    exact this
theorem L.whole_le (n : Nat) : 1 + n ≤ L.whole n ∧ L.whole n < 5 + n ∧ L.whole n % 4 = 0 := by unfold L.whole; omega
theorem L.nameB_len (xs : List Int) : (L.nameB xs).length = L.whole xs.length := by
  have := L.whole_le xs.length
  simp [L.nameB]; omega
theorem L.name_len {xs : List Int} (h : L.name xs = true) : 1 ≤ xs.length ∧ xs.length ≤ 12 := by
  unfold L.name at h
  simp only [Bool.and_eq_true, decide_eq_true_eq] at h
  exact h.1.1.1
theorem L.nameB_byt (xs : List Int) (hb : L.Byt xs) (hn : xs.length ≤ 12) : L.Byt (L.nameB xs) := by
  intro x hx
  unfold L.nameB at hx
  rcases List.mem_append.1 hx with hx | hx
  · rcases List.mem_cons.1 hx with rfl | hx
    · omega
    · exact hb x hx
  · rw [List.eq_of_mem_replicate hx]; omega
theorem L.pnB_byt (xs : List Int) (hb : L.Byt xs) : L.Byt (L.pnB xs) := by
  unfold L.pnB
  split
  · rename_i h
    exact L.nameB_byt xs hb (L.name_len h).2
  · intro x hx; cases hx
end Go.Proofs.YtpbgniffjlcbhaaDoor
