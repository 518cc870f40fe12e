/-
  Package scan, plainly: the tokens of a line, as the document's answer has them; what follows. No Go function is named here.
-/
import Derived.Test.YtpbgniffjlcbhaaDoorLeP
namespace Go.Proofs.YtpbgniffjlcbhaaDoor
set_option linter.unusedVariables false
set_option linter.unusedSimpArgs false
set_option maxRecDepth 100000
/-- a token: its kind, its place, its text, its number -/
structure Sc.Tk where
  k : Int
  p : Int
  t : List Int
  n : Int
deriving DecidableEq
def Sc.letter (c : Int) : Bool := L.letter c || decide (c = 95)
def Sc.blank (c : Int) : Bool := decide (c = 32) || decide (c = 9)
def Sc.signs : List Int := [44, 58, 43, 45, 42, 40, 41, 61]
def Sc.sign (c : Int) : Bool := Sc.signs.contains c
def Sc.word (xs : List Int) : List Int := xs.takeWhile L.part
def Sc.six (c : Int) : Option Int := if 48 ≤ c ∧ c ≤ 57 then some (c - 48) else if 65 ≤ c ∧ c ≤ 70 then some (c - 55) else if 97 ≤ c ∧ c ≤ 102 then some (c - 87) else none
/-- one more digit -/
def Sc.step (b n c : Int) : Option Int := match Sc.six c with
  | some d => if d < b then if n * b + d < 4294967296 then some (n * b + d) else none else none
  | none => none
def Sc.num (b : Int) : List Int → Int → Option Int
  | [], n => some n
  | c :: r, n => match Sc.step b n c with
    | some m => Sc.num b r m
    | none => none
def Sc.hexed (xs : List Int) : Bool := decide (2 < xs.length) && decide (xs.getD 0 0 = 48) && decide (xs.getD 1 0 = 120)
def Sc.number (xs : List Int) : Option Int := if Sc.hexed xs = true then Sc.num 16 (xs.drop 2) 0 else Sc.num 10 xs 0
/-- the token that a line begins with, if it does with one, and how many bytes it takes -/
def Sc.one : List Int → Int → Except Int (Sc.Tk × Nat)
  | [], _ => .error 20
  | c :: r, p =>
    if Sc.letter c = true then .ok (⟨1, p, Sc.word (c :: r), 0⟩, (Sc.word (c :: r)).length)
    else if L.digit c = true then match Sc.number (Sc.word (c :: r)) with
      | some n => .ok (⟨2, p, Sc.word (c :: r), n⟩, (Sc.word (c :: r)).length)
      | none => .error 21
    else if c = 46 ∧ Sc.letter (r.getD 0 0) = true then .ok (⟨4, p, Sc.word r, 0⟩, 1 + (Sc.word r).length)
    else if Sc.sign c = true then .ok (⟨3, p, [c], 0⟩, 1)
    else .error 20
/-- what has been told ahead of what comes -/
def Sc.pre (l : List Sc.Tk) : Except Int (List Sc.Tk) → Except Int (List Sc.Tk)
  | .ok m => .ok (l ++ m)
  | .error e => .error e
def Sc.go : Nat → List Int → Int → Except Int (List Sc.Tk)
  | 0, _, _ => .ok []
  | _ + 1, [], _ => .ok []
  | f + 1, c :: r, p => if c = 59 then .ok [] else if Sc.blank c = true then Sc.go f r (p + 1) else match Sc.one (c :: r) p with
    | .error e => .error e
    | .ok x => Sc.pre [x.1] (Sc.go f ((c :: r).drop x.2) (p + (x.2 : Int)))
/-- the tokens of a line, from the place p on -/
def Sc.run (xs : List Int) (p : Int) : Except Int (List Sc.Tk) := Sc.go xs.length xs p
def Sc.line (xs : List Int) : Except Int (List Sc.Tk) := Sc.run xs 0
theorem Sc.one_cons (c : Int) (r : List Int) (p : Int) : Sc.one (c :: r) p = (if Sc.letter c = true then .ok (⟨1, p, Sc.word (c :: r), 0⟩, (Sc.word (c :: r)).length)
    else if L.digit c = true then match Sc.number (Sc.word (c :: r)) with
      | some n => .ok (⟨2, p, Sc.word (c :: r), n⟩, (Sc.word (c :: r)).length)
      | none => .error 21
    else if c = 46 ∧ Sc.letter (r.getD 0 0) = true then .ok (⟨4, p, Sc.word r, 0⟩, 1 + (Sc.word r).length)
    else if Sc.sign c = true then .ok (⟨3, p, [c], 0⟩, 1)
    else .error 20) := rfl
theorem Sc.go_cons (f : Nat) (c : Int) (r : List Int) (p : Int) : Sc.go (f + 1) (c :: r) p = (if c = 59 then .ok [] else if Sc.blank c = true then Sc.go f r (p + 1) else match Sc.one (c :: r) p with
    | .error e => .error e
    | .ok x => Sc.pre [x.1] (Sc.go f ((c :: r).drop x.2) (p + (x.2 : Int)))) := rfl
theorem Sc.pre_nil (x : Except Int (List Sc.Tk)) : Sc.pre [] x = x := by cases x <;> rfl
theorem Sc.pre_pre (l m : List Sc.Tk) (x : Except Int (List Sc.Tk)) : Sc.pre l (Sc.pre m x) = Sc.pre (l ++ m) x := by
  cases x with
  | error e => rfl
  | ok y => simp [Sc.pre]
theorem Sc.word_le (xs : List Int) : (Sc.word xs).length ≤ xs.length := (List.takeWhile_sublist _).length_le
theorem Sc.word_pos {c : Int} {r : List Int} (h : L.part c = true) : 1 ≤ (Sc.word (c :: r)).length := by
  unfold Sc.word
  rw [List.takeWhile_cons, if_pos h]
  simp
theorem Sc.part_letter {c : Int} (h : Sc.letter c = true) : L.part c = true := by
  unfold Sc.letter at h
  unfold L.part
  revert h
  cases L.letter c <;> cases L.digit c <;> simp
theorem Sc.part_digit {c : Int} (h : L.digit c = true) : L.part c = true := by
  unfold L.part
  rw [h]; simp
theorem Sc.one_size {c : Int} {r : List Int} {p : Int} {x : Sc.Tk × Nat} (h : Sc.one (c :: r) p = .ok x) : 1 ≤ x.2 ∧ x.2 ≤ (c :: r).length := by
  rw [Sc.one_cons] at h
  split at h
  · rename_i hc
    cases h
    exact ⟨Sc.word_pos (Sc.part_letter hc), Sc.word_le _⟩
  · split at h
    · rename_i hc
      split at h
      · cases h
        exact ⟨Sc.word_pos (Sc.part_digit hc), Sc.word_le _⟩
      · cases h
    · split at h
      · cases h
        refine ⟨by simp only []; omega, ?_⟩
        have := Sc.word_le r
        simp only [List.length_cons]; omega
      · split at h
        · cases h
          simp
        · cases h
theorem Sc.go_fuel : ∀ (f : Nat) (xs : List Int) (p : Int), xs.length ≤ f → Sc.go f xs p = Sc.go xs.length xs p
  | 0, xs, p, h => by
    have : xs = [] := List.eq_nil_of_length_eq_zero (by omega)
    subst this; rfl
  | f + 1, [], p, _ => rfl
  | f + 1, c :: r, p, h => by
    show Sc.go (f + 1) (c :: r) p = Sc.go (r.length + 1) (c :: r) p
    simp only [List.length_cons] at h
    rw [Sc.go_cons, Sc.go_cons]
    split
    · rfl
    · split
      · exact Sc.go_fuel f r (p + 1) (by omega)
      · cases hx : Sc.one (c :: r) p with
        | error e => rfl
        | ok x =>
          obtain ⟨h1, h2⟩ := Sc.one_size hx
          simp only [List.length_cons] at h2
          have hl : ((c :: r).drop x.2).length ≤ r.length := by rw [List.length_drop]; simp only [List.length_cons]; omega
          simp only []
          rw [Sc.go_fuel f _ _ (by omega), Sc.go_fuel r.length _ _ hl]
theorem Sc.run_nil (p : Int) : Sc.run [] p = .ok [] := rfl
theorem Sc.run_semi (r : List Int) (p : Int) : Sc.run (59 :: r) p = .ok [] := rfl
theorem Sc.run_blank {c : Int} (r : List Int) (p : Int) (h : Sc.blank c = true) : Sc.run (c :: r) p = Sc.run r (p + 1) := by
  unfold Sc.run
  show Sc.go (r.length + 1) (c :: r) p = _
  rw [Sc.go_cons]
  have h59 : c ≠ 59 := by
    unfold Sc.blank at h
    simp only [Bool.or_eq_true, decide_eq_true_eq] at h
    omega
  rw [if_neg h59, if_pos h]
theorem Sc.run_tok {c : Int} {r : List Int} {p : Int} {x : Sc.Tk × Nat} (h1 : c ≠ 59) (h2 : Sc.blank c = false) (h : Sc.one (c :: r) p = .ok x) : Sc.run (c :: r) p = Sc.pre [x.1] (Sc.run ((c :: r).drop x.2) (p + (x.2 : Int))) := by
  unfold Sc.run
  show Sc.go (r.length + 1) (c :: r) p = _
  obtain ⟨g1, g2⟩ := Sc.one_size h
  simp only [List.length_cons] at g2
  rw [← Sc.go_fuel r.length _ _ (by rw [List.length_drop]; simp only [List.length_cons]; omega)]
  rw [Sc.go_cons]
  rw [if_neg h1, if_neg (by rw [h2]; decide), h]
theorem Sc.run_err {c : Int} {r : List Int} {p e : Int} (h1 : c ≠ 59) (h2 : Sc.blank c = false) (h : Sc.one (c :: r) p = .error e) : Sc.run (c :: r) p = .error e := by
  unfold Sc.run
  show Sc.go (r.length + 1) (c :: r) p = _
  rw [Sc.go_cons]
  rw [if_neg h1, if_neg (by rw [h2]; decide), h]
/-- a byte that stands behind a word -/
def Sc.ends (c : Int) : Prop := c = 32 ∨ c = 9 ∨ c = 59
theorem Sc.ends_part {c : Int} (h : Sc.ends c) : L.part c = false ∧ Sc.letter c = false := by
  rcases h with rfl | rfl | rfl <;> exact ⟨by decide, by decide⟩
theorem Sc.word_end {c : Int} (h : Sc.ends c) (y : List Int) : ∀ x : List Int, Sc.word (x ++ c :: y) = Sc.word x
  | [] => by
    unfold Sc.word
    rw [List.nil_append, List.takeWhile_cons, if_neg (by rw [(Sc.ends_part h).1]; decide)]; rfl
  | a :: x => by
    have ih := Sc.word_end h y x
    unfold Sc.word at ih ⊢
    rw [List.cons_append, List.takeWhile_cons, List.takeWhile_cons]
    split
    · rw [ih]
    · rfl
theorem Sc.one_end {c : Int} (h : Sc.ends c) (y : List Int) {a : Int} (x : List Int) (p : Int) : Sc.one (a :: x ++ c :: y) p = Sc.one (a :: x) p := by
  have h1 : Sc.word (a :: (x ++ c :: y)) = Sc.word (a :: x) := Sc.word_end h y (a :: x)
  have h2 := Sc.word_end h y x
  have h3 : Sc.letter ((x ++ c :: y).getD 0 0) = Sc.letter (x.getD 0 0) := by
    cases x with
    | nil => exact (Sc.ends_part h).2
    | cons b z => rfl
  show Sc.one (a :: (x ++ c :: y)) p = _
  rw [Sc.one_cons, Sc.one_cons, h1, h2, h3]
/-- a line, a byte that ends a word, and more: the line has no semicolon -/
theorem Sc.run_end {c : Int} (h : Sc.ends c) (y : List Int) : ∀ (f : Nat) (x : List Int) (p : Int), x.length ≤ f → 59 ∉ x → Sc.run (x ++ c :: y) p = match Sc.run x p with | .ok l => Sc.pre l (Sc.run (c :: y) (p + (x.length : Int))) | .error e => .error e
  | _, [], p, _, _ => by
    rw [Sc.run_nil]
    simp [Sc.pre_nil]
  | 0, a :: x, p, hl, _ => by simp at hl
  | f + 1, a :: x, p, hl, hn => by
    simp only [List.length_cons] at hl
    have ha : a ≠ 59 := fun e => hn (by rw [e]; simp)
    have hx : 59 ∉ x := fun e => hn (by simp [e])
    cases hb : Sc.blank a with
    | true =>
      rw [List.cons_append, Sc.run_blank _ _ hb, Sc.run_blank _ _ hb, Sc.run_end h y f x (p + 1) (by omega) hx]
      rw [show p + ((a :: x).length : Int) = p + 1 + (x.length : Int) by simp only [List.length_cons]; omega]
    | false =>
      cases ho : Sc.one (a :: x) p with
      | error e =>
        rw [Sc.run_err ha hb ho]
        exact Sc.run_err ha hb (by rw [← ho]; exact Sc.one_end h y x p)
      | ok t =>
        obtain ⟨g1, g2⟩ := Sc.one_size ho
        have hr : Sc.run (a :: x ++ c :: y) p = _ := Sc.run_tok (r := x ++ c :: y) ha hb (x := t) (by rw [← ho]; exact Sc.one_end h y x p)
        rw [hr, Sc.run_tok ha hb ho]
        have hd : (a :: (x ++ c :: y)).drop t.2 = (a :: x).drop t.2 ++ c :: y := by
          rw [show a :: (x ++ c :: y) = (a :: x) ++ c :: y from rfl, List.drop_append_of_le_length g2]
        have hlen : ((a :: x).drop t.2).length = (a :: x).length - t.2 := List.length_drop
        rw [hd, Sc.run_end h y f _ _ (by rw [hlen]; simp only [List.length_cons]; omega) (fun e => hn (List.mem_of_mem_drop e))]
        cases Sc.run ((a :: x).drop t.2) (p + (t.2 : Int)) with
        | error e => rfl
        | ok l =>
          show Sc.pre [t.1] (Sc.pre l (Sc.run (c :: y) (p + (t.2 : Int) + ((((a :: x).drop t.2).length : Nat) : Int)))) = Sc.pre ([t.1] ++ l) (Sc.run (c :: y) (p + ((a :: x).length : Int)))
          rw [Sc.pre_pre, hlen, show p + (t.2 : Int) + (((a :: x).length - t.2 : Nat) : Int) = p + ((a :: x).length : Int) by omega]
/-- the same, moved -/
def Sc.mv (k : Int) (t : Sc.Tk) : Sc.Tk := { t with p := t.p + k }
def Sc.shift (k : Int) : Except Int (List Sc.Tk) → Except Int (List Sc.Tk)
  | .ok l => .ok (l.map (Sc.mv k))
  | .error e => .error e
theorem Sc.one_shift (k : Int) (xs : List Int) (p : Int) : Sc.one xs (p + k) = match Sc.one xs p with | .ok x => .ok (Sc.mv k x.1, x.2) | .error e => .error e := by
  cases xs with
  | nil => rfl
  | cons c r =>
    rw [Sc.one_cons, Sc.one_cons]
    split
    · rfl
    · split
      · split <;> rfl
      · split
        · rfl
        · split <;> rfl
theorem Sc.run_shift (k : Int) : ∀ (f : Nat) (x : List Int) (p : Int), x.length ≤ f → Sc.run x (p + k) = Sc.shift k (Sc.run x p)
  | _, [], p, _ => rfl
  | 0, a :: x, p, hl => by simp at hl
  | f + 1, a :: x, p, hl => by
    simp only [List.length_cons] at hl
    by_cases ha : a = 59
    · subst ha; rfl
    cases hb : Sc.blank a with
    | true =>
      rw [Sc.run_blank _ _ hb, Sc.run_blank _ _ hb, show p + k + 1 = p + 1 + k by omega]
      exact Sc.run_shift k f x (p + 1) (by omega)
    | false =>
      have hs := Sc.one_shift k (a :: x) p
      cases ho : Sc.one (a :: x) p with
      | error e =>
        rw [ho] at hs
        rw [Sc.run_err ha hb ho, Sc.run_err ha hb hs]; rfl
      | ok t =>
        rw [ho] at hs
        obtain ⟨g1, g2⟩ := Sc.one_size ho
        rw [Sc.run_tok ha hb ho, Sc.run_tok ha hb hs]
        simp only []
        rw [show p + k + (t.2 : Int) = p + (t.2 : Int) + k by omega, Sc.run_shift k f _ _ (by rw [List.length_drop]; simp only [List.length_cons] at g2 ⊢; omega)]
        cases Sc.run ((a :: x).drop t.2) (p + (t.2 : Int)) <;> rfl
theorem Sc.run_at (x : List Int) (p : Int) : Sc.run x p = Sc.shift p (Sc.run x 0) := by
  have := Sc.run_shift p x.length x 0 (Nat.le_refl _)
  rwa [show (0 : Int) + p = p by omega] at this
/-- two lines -/
theorem Sc.parts (x y : List Int) (h : 59 ∉ x) : Sc.line (x ++ 32 :: y) = match Sc.line x with | .ok l => Sc.pre l (Sc.shift ((x.length : Int) + 1) (Sc.line y)) | .error e => .error e := by
  unfold Sc.line
  rw [Sc.run_end (Or.inl rfl) y x.length x 0 (Nat.le_refl _) h]
  cases Sc.run x 0 with
  | error e => rfl
  | ok l =>
    simp only []
    rw [Sc.run_blank (c := 32) y _ rfl, Sc.run_at y, show (0 : Int) + (x.length : Int) + 1 = (x.length : Int) + 1 by omega]
/-- what stands behind a semicolon does not matter -/
theorem Sc.semi (x y : List Int) (p : Int) (h : 59 ∉ x) : Sc.run (x ++ 59 :: y) p = Sc.run x p := by
  rw [Sc.run_end (Or.inr (Or.inr rfl)) y x.length x p (Nat.le_refl _) h]
  cases Sc.run x p with
  | error e => rfl
  | ok l => simp [Sc.run_semi, Sc.pre]
theorem Sc.split59 : ∀ {w : List Int}, 59 ∈ w → ∃ x y, w = x ++ 59 :: y ∧ 59 ∉ x
  | [], h => by cases h
  | a :: w, h => by
    by_cases ha : a = 59
    · subst ha; exact ⟨[], w, rfl, by simp⟩
    · rcases List.mem_cons.1 h with e | e
      · exact absurd e.symm ha
      · obtain ⟨x, y, rfl, h2⟩ := Sc.split59 e
        exact ⟨a :: x, y, rfl, fun q => by
          rcases List.mem_cons.1 q with q | q
          · exact ha q.symm
          · exact h2 q⟩
theorem Sc.run_blanks (k : Nat) (y : List Int) (p : Int) : Sc.run (List.replicate k 32 ++ y) p = Sc.run y (p + (k : Int)) := by
  induction k generalizing p with
  | zero => simp
  | succ k ih =>
    rw [List.replicate_succ, List.cons_append, Sc.run_blank (c := 32) _ _ rfl, ih]
    rw [show p + 1 + (k : Int) = p + ((k + 1 : Nat) : Int) by omega]
/-- blanks ahead, and behind -/
theorem Sc.ahead (k : Nat) (w : List Int) : Sc.line (List.replicate k 32 ++ w) = Sc.shift (k : Int) (Sc.line w) := by
  unfold Sc.line
  rw [Sc.run_blanks, Sc.run_at]
  congr 1
  omega
theorem Sc.behind (k : Nat) (w : List Int) : Sc.line (w ++ 9 :: List.replicate k 32) = Sc.line w := by
  unfold Sc.line
  by_cases h : 59 ∈ w
  · obtain ⟨x, y, rfl, h2⟩ := Sc.split59 h
    rw [List.append_assoc, List.cons_append, Sc.semi _ _ _ h2, Sc.semi _ _ _ h2]
  · rw [Sc.run_end (Or.inr (Or.inl rfl)) _ w.length w 0 (Nat.le_refl _) h]
    cases Sc.run w 0 with
    | error e => rfl
    | ok l =>
      simp only []
      rw [Sc.run_blank (c := 9) _ _ rfl]
      have := Sc.run_blanks k [] (0 + (w.length : Int) + 1)
      rw [List.append_nil] at this
      rw [this, Sc.run_nil]
      simp [Sc.pre]
end Go.Proofs.YtpbgniffjlcbhaaDoor
