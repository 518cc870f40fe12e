/-
  Package scan, plainly: what was joined is scanned; numbers from their digits; what no token begins with. No Go function is named here.
-/
import Derived.Test.YtpbgniffjlcbhaaDoorScP
import Derived.Test.YtpbgniffjlcbhaaDoorNaP
namespace Go.Proofs.YtpbgniffjlcbhaaDoor
set_option linter.unusedVariables false
set_option linter.unusedSimpArgs false
set_option maxRecDepth 100000
/-- a token that may be -/
def Sc.Ok (t : Sc.Tk) : Prop :=
  (t.k = 1 ∧ t.n = 0 ∧ Sc.letter (t.t.getD 0 0) = true ∧ t.t.all L.part = true) ∨
  (t.k = 2 ∧ L.digit (t.t.getD 0 0) = true ∧ t.t.all L.part = true ∧ Sc.number t.t = some t.n) ∨
  (t.k = 4 ∧ t.n = 0 ∧ Sc.letter (t.t.getD 0 0) = true ∧ t.t.all L.part = true) ∨
  (t.k = 3 ∧ t.n = 0 ∧ ∃ c, t.t = [c] ∧ Sc.sign c = true)
theorem Sc.word_all (xs : List Int) : (Sc.word xs).all L.part = true := List.all_takeWhile
theorem Sc.word_head {c : Int} {r : List Int} (h : L.part c = true) : (Sc.word (c :: r)).getD 0 0 = c := by
  unfold Sc.word
  rw [List.takeWhile_cons, if_pos h]
  rfl
theorem Sc.one_ok {xs : List Int} {p : Int} {x : Sc.Tk × Nat} (h : Sc.one xs p = .ok x) : Sc.Ok x.1 := by
  cases xs with
  | nil => cases h
  | cons c r =>
    rw [Sc.one_cons] at h
    split at h
    · rename_i hc
      cases h
      exact Or.inl ⟨rfl, rfl, by simp only []; rw [Sc.word_head (Sc.part_letter hc)]; exact hc, Sc.word_all _⟩
    · split at h
      · rename_i hc
        split at h
        · rename_i n hn
          cases h
          exact Or.inr (Or.inl ⟨rfl, by simp only []; rw [Sc.word_head (Sc.part_digit hc)]; exact hc, Sc.word_all _, hn⟩)
        · cases h
      · split at h
        · rename_i hc
          cases h
          refine Or.inr (Or.inr (Or.inl ⟨rfl, rfl, ?_, Sc.word_all _⟩))
          cases r with
          | nil => exact absurd hc.2 (by decide)
          | cons b z =>
            have hb : Sc.letter b = true := hc.2
            simp only []
            rw [Sc.word_head (Sc.part_letter hb)]
            exact hb
        · split at h
          · rename_i hc
            cases h
            exact Or.inr (Or.inr (Or.inr ⟨rfl, rfl, c, rfl, hc⟩))
          · cases h
theorem Sc.pre_ok {t : Sc.Tk} {x : Except Int (List Sc.Tk)} {l : List Sc.Tk} (h : Sc.pre [t] x = .ok l) : ∃ m, x = .ok m ∧ l = t :: m := by
  cases x with
  | error e => cases h
  | ok m => exact ⟨m, rfl, by cases h; rfl⟩
theorem Sc.run_ok : ∀ (f : Nat) (x : List Int) (p : Int) (l : List Sc.Tk), x.length ≤ f → Sc.run x p = .ok l → ∀ t ∈ l, Sc.Ok t
  | _, [], p, l, _, h => by cases h; simp
  | 0, a :: x, p, l, hl, _ => by simp at hl
  | f + 1, a :: x, p, l, hl, h => by
    simp only [List.length_cons] at hl
    by_cases ha : a = 59
    · subst ha; cases h; simp
    cases hb : Sc.blank a with
    | true =>
      rw [Sc.run_blank _ _ hb] at h
      exact Sc.run_ok f x _ l (by omega) h
    | false =>
      cases ho : Sc.one (a :: x) p with
      | error e => rw [Sc.run_err ha hb ho] at h; cases h
      | ok t =>
        rw [Sc.run_tok ha hb ho] at h
        obtain ⟨g1, g2⟩ := Sc.one_size ho
        obtain ⟨m, h1, rfl⟩ := Sc.pre_ok h
        intro u hu
        rcases List.mem_cons.1 hu with rfl | hu
        · exact Sc.one_ok ho
        · exact Sc.run_ok f _ _ m (by rw [List.length_drop]; simp only [List.length_cons] at g2 ⊢; omega) h1 u hu
/-- the errors that there are -/
theorem Sc.run_errs : ∀ (f : Nat) (x : List Int) (p e : Int), x.length ≤ f → Sc.run x p = .error e → e = 20 ∨ e = 21
  | _, [], p, e, _, h => by cases h
  | 0, a :: x, p, e, hl, _ => by simp at hl
  | f + 1, a :: x, p, e, hl, h => by
    simp only [List.length_cons] at hl
    by_cases ha : a = 59
    · subst ha; cases h
    cases hb : Sc.blank a with
    | true =>
      rw [Sc.run_blank _ _ hb] at h
      exact Sc.run_errs f x _ e (by omega) h
    | false =>
      cases ho : Sc.one (a :: x) p with
      | error e' =>
        rw [Sc.run_err ha hb ho] at h
        cases h
        rw [Sc.one_cons] at ho
        split at ho
        · cases ho
        · split at ho
          · split at ho
            · cases ho
            · cases ho; exact Or.inr rfl
          · split at ho
            · cases ho
            · split at ho
              · cases ho
              · cases ho; exact Or.inl rfl
      | ok t =>
        rw [Sc.run_tok ha hb ho] at h
        obtain ⟨g1, g2⟩ := Sc.one_size ho
        cases hr : Sc.run ((a :: x).drop t.2) (p + (t.2 : Int)) with
        | ok m => rw [hr] at h; cases h
        | error e' =>
          rw [hr] at h
          cases h
          exact Sc.run_errs f _ _ _ (by rw [List.length_drop]; simp only [List.length_cons] at g2 ⊢; omega) hr
/-- P14.2 -/
def Sc.dot (t : Sc.Tk) : List Int := if t.k = 4 then [46] else []
def Sc.piece (t : Sc.Tk) : List Int := Sc.dot t ++ t.t ++ [32]
def Sc.join (l : List Sc.Tk) : List Int := l.flatMap Sc.piece
/-- the tokens at the places where they stand when they are joined -/
def Sc.place : List Sc.Tk → Int → List Sc.Tk
  | [], _ => []
  | t :: l, p => { t with p := p } :: Sc.place l (p + ((Sc.piece t).length : Int))
theorem Sc.word_whole {t : List Int} (h : t.all L.part = true) (y : List Int) : Sc.word (t ++ 32 :: y) = t := by
  rw [Sc.word_end (Or.inl rfl)]
  induction t with
  | nil => rfl
  | cons c r ih =>
    rw [List.all_cons, Bool.and_eq_true] at h
    unfold Sc.word at ih ⊢
    rw [List.takeWhile_cons, if_pos h.1, ih h.2]
theorem Sc.head_cons {t : List Int} {q : Int → Bool} (h : q (t.getD 0 0) = true) (h0 : q 0 = false) : ∃ c r, t = c :: r ∧ q c = true := by
  cases t with
  | nil => exact absurd h (by simpa using h0)
  | cons c r => exact ⟨c, r, rfl, h⟩
theorem Sc.digit_not {c : Int} (h : L.digit c = true) : Sc.letter c = false ∧ c ≠ 59 ∧ Sc.blank c = false := by
  unfold L.digit at h
  simp only [Bool.and_eq_true, decide_eq_true_eq] at h
  refine ⟨?_, by omega, ?_⟩
  · unfold Sc.letter L.letter
    simp; omega
  · unfold Sc.blank
    simp; omega
theorem Sc.letter_not {c : Int} (h : Sc.letter c = true) : c ≠ 59 ∧ Sc.blank c = false := by
  unfold Sc.letter L.letter at h
  simp only [Bool.or_eq_true, Bool.and_eq_true, decide_eq_true_eq] at h
  refine ⟨by omega, ?_⟩
  unfold Sc.blank
  simp; omega
theorem Sc.sign_not : ∀ c ∈ Sc.signs, Sc.letter c = false ∧ L.digit c = false ∧ c ≠ 59 ∧ Sc.blank c = false ∧ c ≠ 46 := by decide
/-- one piece of what was joined -/
theorem Sc.run_piece {t : Sc.Tk} (h : Sc.Ok t) (y : List Int) (p : Int) : Sc.run (Sc.piece t ++ y) p = Sc.pre [{ t with p := p }] (Sc.run y (p + ((Sc.piece t).length : Int))) := by
  obtain ⟨k, p0, xs, n⟩ := t
  rcases h with ⟨h1, h2, h3, h4⟩ | ⟨h1, h2, h3, h4⟩ | ⟨h1, h2, h3, h4⟩ | ⟨h1, h2, c, h3, h4⟩ <;> simp only [] at h1 h2 h3 h4 <;> subst h1
  · subst h2
    obtain ⟨c, r, rfl, hc⟩ := Sc.head_cons h3 (by decide)
    obtain ⟨g1, g2⟩ := Sc.letter_not hc
    have e : Sc.piece ⟨1, p0, c :: r, 0⟩ ++ y = c :: (r ++ 32 :: y) := by simp [Sc.piece, Sc.dot]
    have hw : Sc.word (c :: (r ++ 32 :: y)) = c :: r := Sc.word_whole h4 y
    have ho : Sc.one (c :: (r ++ 32 :: y)) p = .ok (⟨1, p, c :: r, 0⟩, (c :: r).length) := by
      rw [Sc.one_cons, if_pos hc, hw]
    rw [e, Sc.run_tok g1 g2 ho]
    have hd : (c :: (r ++ 32 :: y)).drop (c :: r).length = 32 :: y := by
      rw [show c :: (r ++ 32 :: y) = (c :: r) ++ 32 :: y from rfl]; exact List.drop_left
    simp only [hd]
    rw [Sc.run_blank (c := 32) _ _ rfl]
    congr 2
    simp [Sc.piece, Sc.dot]; omega
  · obtain ⟨c, r, rfl, hc⟩ := Sc.head_cons h2 (by decide)
    obtain ⟨g0, g1, g2⟩ := Sc.digit_not hc
    have e : Sc.piece ⟨2, p0, c :: r, n⟩ ++ y = c :: (r ++ 32 :: y) := by simp [Sc.piece, Sc.dot]
    have hw : Sc.word (c :: (r ++ 32 :: y)) = c :: r := Sc.word_whole h3 y
    have ho : Sc.one (c :: (r ++ 32 :: y)) p = .ok (⟨2, p, c :: r, n⟩, (c :: r).length) := by
      rw [Sc.one_cons, if_neg (by rw [g0]; decide), if_pos hc, hw, h4]
    rw [e, Sc.run_tok g1 g2 ho]
    have hd : (c :: (r ++ 32 :: y)).drop (c :: r).length = 32 :: y := by
      rw [show c :: (r ++ 32 :: y) = (c :: r) ++ 32 :: y from rfl]; exact List.drop_left
    simp only [hd]
    rw [Sc.run_blank (c := 32) _ _ rfl]
    congr 2
    simp [Sc.piece, Sc.dot]; omega
  · subst h2
    obtain ⟨c, r, rfl, hc⟩ := Sc.head_cons h3 (by decide)
    have e : Sc.piece ⟨4, p0, c :: r, 0⟩ ++ y = 46 :: ((c :: r) ++ 32 :: y) := by simp [Sc.piece, Sc.dot]
    have hw : Sc.word ((c :: r) ++ 32 :: y) = c :: r := Sc.word_whole h4 y
    have ho : Sc.one (46 :: ((c :: r) ++ 32 :: y)) p = .ok (⟨4, p, c :: r, 0⟩, 1 + (c :: r).length) := by
      rw [Sc.one_cons, if_neg (by decide), if_neg (by decide), if_pos ⟨rfl, hc⟩, hw]
    rw [e, Sc.run_tok (by decide) (by decide) ho]
    have hd : (46 :: ((c :: r) ++ 32 :: y)).drop (1 + (c :: r).length) = 32 :: y := by
      rw [Nat.add_comm, List.drop_succ_cons]; exact List.drop_left
    simp only [hd]
    rw [Sc.run_blank (c := 32) _ _ rfl]
    congr 2
    simp [Sc.piece, Sc.dot]; omega
  · subst h2 h3
    have hm : c ∈ Sc.signs := by unfold Sc.sign at h4; simpa using h4
    obtain ⟨g1, g2, g3, g4, g5⟩ := Sc.sign_not c hm
    have e : Sc.piece ⟨3, p0, [c], 0⟩ ++ y = c :: 32 :: y := by simp [Sc.piece, Sc.dot]
    have ho : Sc.one (c :: 32 :: y) p = .ok (⟨3, p, [c], 0⟩, 1) := by
      rw [Sc.one_cons, if_neg (by rw [g1]; decide), if_neg (by rw [g2]; decide), if_neg (fun q => g5 q.1), if_pos h4]
    rw [e, Sc.run_tok g3 g4 ho]
    simp only [List.drop_succ_cons, List.drop_zero]
    rw [Sc.run_blank (c := 32) _ _ rfl]
    congr 2
    simp [Sc.piece, Sc.dot]; omega
/-- P14.3 -/
theorem Sc.run_join : ∀ (l : List Sc.Tk) (y : List Int) (p : Int), (∀ t ∈ l, Sc.Ok t) → Sc.run (Sc.join l ++ y) p = Sc.pre (Sc.place l p) (Sc.run y (p + ((Sc.join l).length : Int)))
  | [], y, p, _ => by simp [Sc.join, Sc.place, Sc.pre_nil]
  | t :: l, y, p, h => by
    have e : Sc.join (t :: l) ++ y = Sc.piece t ++ (Sc.join l ++ y) := by simp [Sc.join]
    rw [e, Sc.run_piece (h t (by simp)), Sc.run_join l y _ (fun u hu => h u (by simp [hu])), Sc.pre_pre]
    have e2 : ((Sc.join (t :: l)).length : Int) = ((Sc.piece t).length : Int) + ((Sc.join l).length : Int) := by simp [Sc.join]
    rw [e2, show p + ((Sc.piece t).length : Int) + ((Sc.join l).length : Int) = p + (((Sc.piece t).length : Int) + ((Sc.join l).length : Int)) by omega]
    rfl
theorem Sc.line_join {l : List Sc.Tk} (h : ∀ t ∈ l, Sc.Ok t) : Sc.line (Sc.join l) = .ok (Sc.place l 0) := by
  have := Sc.run_join l [] 0 h
  rw [List.append_nil] at this
  unfold Sc.line
  rw [this, Sc.run_nil]
  simp [Sc.pre]
theorem Sc.line_semi {l : List Sc.Tk} (h : ∀ t ∈ l, Sc.Ok t) (y : List Int) : Sc.line (Sc.join l ++ 59 :: y) = .ok (Sc.place l 0) := by
  unfold Sc.line
  rw [Sc.run_join l _ 0 h, Sc.run_semi]
  simp [Sc.pre]
/-- the digits of a number -/
def Sc.dig (d : Int) : Int := if d < 10 then 48 + d else 87 + d
def Sc.digs (b : Int) : Nat → Int → List Int
  | 0, _ => []
  | k + 1, n => Sc.digs b k (n / b) ++ [Sc.dig (n % b)]
theorem Sc.six_dig {d : Int} (h0 : 0 ≤ d) (h1 : d < 16) : Sc.six (Sc.dig d) = some d := by
  unfold Sc.six Sc.dig
  by_cases c : d < 10
  · rw [if_pos c, if_pos (by omega)]; congr 1; omega
  · rw [if_neg c, if_neg (by omega), if_neg (by omega), if_pos (by omega)]; congr 1; omega
theorem Sc.num_snoc (b c : Int) : ∀ (xs : List Int) (n : Int), Sc.num b (xs ++ [c]) n = match Sc.num b xs n with | some m => Sc.step b m c | none => none
  | [], n => by
    show (match Sc.step b n c with | some m => Sc.num b [] m | none => none) = Sc.step b n c
    cases Sc.step b n c <;> rfl
  | a :: xs, n => by
    show (match Sc.step b n a with | some m => Sc.num b (xs ++ [c]) m | none => none) = match (match Sc.step b n a with | some m => Sc.num b xs m | none => none) with | some m => Sc.step b m c | none => none
    cases Sc.step b n a with
    | none => rfl
    | some m => exact Sc.num_snoc b c xs m
theorem Sc.num_digs (b : Int) (hb : 2 ≤ b) (hb2 : b ≤ 16) : ∀ (k : Nat) (n : Int), 0 ≤ n → n < b ^ k → n < 4294967296 → Sc.num b (Sc.digs b k n) 0 = some n
  | 0, n, h0, h1, _ => by
    have : n = 0 := by simp at h1; omega
    subst this; rfl
  | k + 1, n, h0, h1, h2 => by
    have hd : n / b < b ^ k := by
      rw [Int.pow_succ] at h1
      exact Int.ediv_lt_of_lt_mul (by omega) h1
    have hle : n / b ≤ n := Int.ediv_le_self _ h0
    have hr0 := Int.emod_nonneg n (show b ≠ 0 by omega)
    have hr1 := Int.emod_lt_of_pos n (show 0 < b by omega)
    show Sc.num b (Sc.digs b k (n / b) ++ [Sc.dig (n % b)]) 0 = _
    rw [Sc.num_snoc, Sc.num_digs b hb hb2 k (n / b) (Int.ediv_nonneg h0 (by omega)) hd (by omega)]
    simp only []
    unfold Sc.step
    rw [Sc.six_dig hr0 (by omega)]
    simp only []
    have e : n / b * b + n % b = n := by
      have := Int.mul_ediv_add_emod n b
      rw [Int.mul_comm]; omega
    rw [if_pos hr1, e, if_pos h2]
theorem Sc.num_zero (b : Int) (hb : 2 ≤ b) (xs : List Int) (z : Nat) : Sc.num b (List.replicate z 48 ++ xs) 0 = Sc.num b xs 0 := by
  induction z with
  | zero => rfl
  | succ z ih =>
    rw [List.replicate_succ, List.cons_append]
    show (match Sc.step b 0 48 with | some m => Sc.num b (List.replicate z 48 ++ xs) m | none => none) = _
    have : Sc.step b 0 48 = some 0 := by
      unfold Sc.step
      rw [show Sc.six 48 = some 0 from rfl]
      simp only []
      rw [if_pos (by omega), if_pos (by omega)]
      congr 1; omega
    rw [this]
    exact ih
theorem Sc.num_none (b c : Int) (h : Sc.six c = none) : ∀ (xs : List Int) (n : Int), c ∈ xs → Sc.num b xs n = none
  | [], n, h => by cases h
  | a :: xs, n, hm => by
    show (match Sc.step b n a with | some m => Sc.num b xs m | none => none) = none
    rcases List.mem_cons.1 hm with e | e
    · have : Sc.step b n a = none := by unfold Sc.step; rw [← e, h]
      rw [this]
    · cases Sc.step b n a with
      | none => rfl
      | some m => exact Sc.num_none b c h xs m e
theorem Sc.digs_all (b : Int) (hb : 2 ≤ b) (hb2 : b ≤ 16) : ∀ (k : Nat) (n : Int), ∀ c ∈ Sc.digs b k n, L.part c = true ∧ c ≠ 120
  | 0, n, c, h => by cases h
  | k + 1, n, c, h => by
    rcases List.mem_append.1 h with h | h
    · exact Sc.digs_all b hb hb2 k (n / b) c h
    · have hr0 := Int.emod_nonneg n (show b ≠ 0 by omega)
      have hr1 := Int.emod_lt_of_pos n (show 0 < b by omega)
      rw [List.mem_singleton.1 h]
      unfold Sc.dig
      by_cases q : n % b < 10
      · rw [if_pos q]
        refine ⟨?_, by omega⟩
        unfold L.part L.digit
        simp; omega
      · rw [if_neg q]
        refine ⟨?_, by omega⟩
        unfold L.part L.letter
        simp; omega
theorem Sc.digs_len (b : Int) : ∀ (k : Nat) (n : Int), (Sc.digs b k n).length = k
  | 0, n => rfl
  | k + 1, n => by
    show (Sc.digs b k (n / b) ++ [_]).length = _
    rw [List.length_append, Sc.digs_len b k]; rfl
/-- a decimal number, with noughts ahead -/
theorem Sc.number_dec (z k : Nat) (n : Int) (h0 : 0 ≤ n) (h1 : n < 10 ^ k) (h2 : n < 4294967296) : Sc.number (List.replicate z 48 ++ Sc.digs 10 k n) = some n := by
  unfold Sc.number
  have hx : Sc.hexed (List.replicate z 48 ++ Sc.digs 10 k n) = false := by
    cases q : Sc.hexed (List.replicate z 48 ++ Sc.digs 10 k n) with
    | false => rfl
    | true =>
      exfalso
      unfold Sc.hexed at q
      simp only [Bool.and_eq_true, decide_eq_true_eq] at q
      have hl := q.1.1
      have h3 : (List.replicate z 48 ++ Sc.digs 10 k n)[1]? = some 120 := by
        rw [List.getElem?_eq_getElem (by omega)]
        have := q.2
        rw [List.getD_eq_getElem?_getD, List.getElem?_eq_getElem (by omega)] at this
        simpa using this
      rcases List.mem_append.1 (List.mem_of_getElem? h3) with h | h
      · have := List.eq_of_mem_replicate h
        omega
      · exact (Sc.digs_all 10 (by omega) (by omega) k n _ h).2 rfl
  rw [hx, if_neg (by decide), Sc.num_zero 10 (by omega), Sc.num_digs 10 (by omega) (by omega) k n h0 h1 h2]
theorem Sc.number_hex (z k : Nat) (n : Int) (h0 : 0 ≤ n) (h1 : n < 16 ^ k) (h2 : n < 4294967296) (hk : 0 < z + k) : Sc.number (48 :: 120 :: (List.replicate z 48 ++ Sc.digs 16 k n)) = some n := by
  unfold Sc.number
  have hx : Sc.hexed (48 :: 120 :: (List.replicate z 48 ++ Sc.digs 16 k n)) = true := by
    unfold Sc.hexed
    simp only [List.length_cons, List.length_append, List.length_replicate, Sc.digs_len]
    rw [decide_eq_true (by omega)]
    rfl
  rw [hx, if_pos rfl]
  show Sc.num 16 (List.replicate z 48 ++ Sc.digs 16 k n) 0 = _
  rw [Sc.num_zero 16 (by omega), Sc.num_digs 16 (by omega) (by omega) k n h0 h1 h2]
/-- what no token begins with -/
def Sc.odd (c : Int) : Bool := decide (c < 9) || (decide (c > 9) && decide (c < 32)) || decide (c > 126) || decide (c = 33) || decide (c = 47) || decide (c = 60) || decide (c = 91) || decide (c = 39)
theorem Sc.line_odd {c : Int} (h : Sc.odd c = true) (y : List Int) : Sc.line (c :: y) = .error 20 := by
  unfold Sc.odd at h
  simp only [Bool.or_eq_true, Bool.and_eq_true, decide_eq_true_eq] at h
  have g1 : c ≠ 59 := by omega
  have g2 : Sc.blank c = false := by unfold Sc.blank; simp; omega
  have g3 : Sc.letter c = false := by unfold Sc.letter L.letter; simp; omega
  have g4 : L.digit c = false := by unfold L.digit; simp; omega
  have g5 : Sc.sign c = false := by
    cases q : Sc.sign c with
    | false => rfl
    | true =>
      unfold Sc.sign Sc.signs at q
      simp at q
      omega
  refine Sc.run_err g1 g2 ?_
  rw [Sc.one_cons, if_neg (by rw [g3]; decide), if_neg (by rw [g4]; decide), if_neg (fun q => by omega), if_neg (by rw [g5]; decide)]
end Go.Proofs.YtpbgniffjlcbhaaDoor
