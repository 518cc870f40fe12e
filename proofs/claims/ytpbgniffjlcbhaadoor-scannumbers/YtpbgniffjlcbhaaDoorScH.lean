/-
  Package scan, plainly: lines that are a number, a name, a name behind a dot; digits from their front; a label is a name.
-/
import Derived.Test.YtpbgniffjlcbhaaDoorScS
namespace Go.Proofs.YtpbgniffjlcbhaaDoor
set_option linter.unusedVariables false
set_option linter.unusedSimpArgs false
set_option maxRecDepth 100000
theorem Sc.word_full {xs : List Int} (h : xs.all L.part = true) : Sc.word xs = xs := by
  unfold Sc.word
  have : ∀ ys : List Int, ys.all L.part = true → ys.takeWhile L.part = ys := by
    intro ys
    induction ys with
    | nil => intro _; rfl
    | cons a r ih =>
      intro h
      simp only [List.all_cons, Bool.and_eq_true] at h
      rw [List.takeWhile_cons, if_pos h.1, ih h.2]
  exact this xs h
theorem Sc.line_one {c : Int} {r : List Int} {t : Sc.Tk} (h59 : c ≠ 59) (hb : Sc.blank c = false) (ho : Sc.one (c :: r) 0 = .ok (t, (c :: r).length)) : Sc.line (c :: r) = .ok [t] := by
  unfold Sc.line
  rw [Sc.run_tok h59 hb ho]
  simp only []
  rw [List.drop_eq_nil_of_le (Nat.le_refl _), Sc.run_nil]
  rfl
theorem Sc.line_num {c n : Int} {r : List Int} (hd : L.digit c = true) (ha : (c :: r).all L.part = true) (hn : Sc.number (c :: r) = some n) : Sc.line (c :: r) = .ok [⟨2, 0, c :: r, n⟩] := by
  obtain ⟨h1, h2, h3⟩ := Sc.digit_not hd
  refine Sc.line_one h2 h3 ?_
  rw [Sc.one_cons, if_neg (by rw [h1]; decide), if_pos hd, Sc.word_full ha, hn]
theorem Sc.line_bad {c : Int} {r : List Int} (hd : L.digit c = true) (ha : (c :: r).all L.part = true) (hn : Sc.number (c :: r) = Option.none) : Sc.line (c :: r) = .error 21 := by
  obtain ⟨h1, h2, h3⟩ := Sc.digit_not hd
  unfold Sc.line
  refine Sc.run_err h2 h3 ?_
  rw [Sc.one_cons, if_neg (by rw [h1]; decide), if_pos hd, Sc.word_full ha, hn]
theorem Sc.line_name {c : Int} {r : List Int} (hd : Sc.letter c = true) (ha : (c :: r).all L.part = true) : Sc.line (c :: r) = .ok [⟨1, 0, c :: r, 0⟩] := by
  obtain ⟨h2, h3⟩ := Sc.letter_not hd
  refine Sc.line_one h2 h3 ?_
  rw [Sc.one_cons, if_pos hd, Sc.word_full ha]
theorem Sc.line_dot {c : Int} {r : List Int} (hd : Sc.letter c = true) (ha : (c :: r).all L.part = true) : Sc.line (46 :: c :: r) = .ok [⟨4, 0, c :: r, 0⟩] := by
  refine Sc.line_one (by decide) (by decide) ?_
  rw [Sc.one_cons, if_neg (by decide), if_neg (by decide), if_pos ⟨rfl, hd⟩, Sc.word_full ha]
  simp only [List.length_cons]
  congr 2
  omega
theorem Sc.part59 {xs : List Int} (h : xs.all L.part = true) : 59 ∉ xs := fun q => absurd (List.all_eq_true.1 h 59 q) (by decide)
/-- a name, and it behind a dot -/
theorem Sc.line_both {c : Int} {r : List Int} (hd : Sc.letter c = true) (ha : (c :: r).all L.part = true) : Sc.line ((c :: r) ++ 32 :: 46 :: (c :: r)) = .ok [⟨1, 0, c :: r, 0⟩, ⟨4, ((c :: r).length : Int) + 1, c :: r, 0⟩] := by
  rw [Sc.parts _ _ (Sc.part59 ha), Sc.line_name hd ha, Sc.line_dot hd ha]
  show Except.ok ([_] ++ [_]) = _
  show Except.ok [_, _] = _
  congr 3
  show ({ k := 4, p := 0 + (((c :: r).length : Int) + 1), t := c :: r, n := 0 } : Sc.Tk) = _
  rw [Int.zero_add]
/-- digits from their front -/
theorem Sc.digs_front (b : Int) (hb : 0 < b) : ∀ (k : Nat) (n : Int), Sc.digs b (k + 1) n = Sc.dig (n / b ^ k % b) :: Sc.digs b k n
  | 0, n => by
    show [] ++ [Sc.dig (n % b)] = _
    rw [Int.pow_zero, Int.ediv_one]; rfl
  | k + 1, n => by
    show Sc.digs b (k + 1) (n / b) ++ [Sc.dig (n % b)] = _
    rw [Sc.digs_front b hb k (n / b), List.cons_append]
    congr 1
    rw [Int.ediv_ediv_of_nonneg (by omega), Int.pow_succ, Int.mul_comm]
def Sc.lineN (z : Nat) (n : Int) : List Int := (48 :: 120 :: (List.replicate z 48 ++ Sc.digs 16 10 n)) ++ 32 :: (List.replicate z 48 ++ Sc.digs 10 10 n)
theorem Sc.noughts_all (z : Nat) (b : Int) (hb : 2 ≤ b) (hb2 : b ≤ 16) (k : Nat) (n : Int) : (List.replicate z 48 ++ Sc.digs b k n).all L.part = true := by
  refine List.all_eq_true.2 fun c hc => ?_
  rcases List.mem_append.1 hc with h | h
  · rw [List.eq_of_mem_replicate h]; decide
  · exact (Sc.digs_all b hb hb2 k n c h).1
theorem Sc.dec_first (z k : Nat) (n : Int) (h : 0 < z + k) : ∃ c r, List.replicate z 48 ++ Sc.digs 10 k n = c :: r ∧ L.digit c = true := by
  cases z with
  | succ z => exact ⟨48, List.replicate z 48 ++ Sc.digs 10 k n, by rw [List.replicate_succ, List.cons_append], by decide⟩
  | zero =>
    cases k with
    | zero => omega
    | succ k =>
      refine ⟨_, _, by rw [Sc.digs_front 10 (by decide) k n]; rfl, ?_⟩
      have h0 := Int.emod_nonneg (n / 10 ^ k) (show (10 : Int) ≠ 0 by decide)
      have h1 := Int.emod_lt_of_pos (n / 10 ^ k) (show (0 : Int) < 10 by decide)
      unfold Sc.dig L.digit
      rw [if_pos h1]
      simp; omega
theorem Sc.line_nums (z : Nat) (n : Int) (h0 : 0 ≤ n) (h1 : n < 4294967296) : ∃ t u : Sc.Tk, Sc.line (Sc.lineN z n) = .ok [t, u] ∧ t.k = 2 ∧ t.n = n ∧ u.n = n := by
  have a1 := Sc.noughts_all z 16 (by decide) (by decide) 10 n
  have a2 := Sc.noughts_all z 10 (by decide) (by decide) 10 n
  have n1 := Sc.number_hex z 10 n h0 (by omega) h1 (by omega)
  have n2 := Sc.number_dec z 10 n h0 (by omega) h1
  have b1 : (48 :: 120 :: (List.replicate z 48 ++ Sc.digs 16 10 n)).all L.part = true := by
    rw [List.all_cons, List.all_cons, a1]; decide
  obtain ⟨c, r, e, hc⟩ := Sc.dec_first z 10 n (by omega)
  unfold Sc.lineN
  rw [Sc.parts _ _ (Sc.part59 b1), Sc.line_num (by decide) b1 n1]
  rw [e] at n2 a2 ⊢
  rw [Sc.line_num hc a2 n2]
  exact ⟨_, _, rfl, rfl, rfl, rfl⟩
theorem Sc.line_g (xs : List Int) (ha : xs.all L.part = true) : Sc.line (49 :: (xs ++ [103])) = .error 21 := by
  have h2 : (49 :: (xs ++ [103])).all L.part = true := by
    rw [List.all_cons, List.all_append, ha]; decide
  refine Sc.line_bad (by decide) h2 ?_
  unfold Sc.number
  have hx : Sc.hexed (49 :: (xs ++ [103])) = false := by
    unfold Sc.hexed
    rw [show (49 :: (xs ++ [103])).getD 0 0 = 49 from rfl]
    simp
  rw [hx, if_neg (by decide)]
  exact Sc.num_none 10 103 (by decide) _ _ (by simp)
theorem Sc.name_part {xs : List Int} (h : L.name xs = true) : 1 ≤ xs.length ∧ xs.length ≤ 12 ∧ L.letter (xs.getD 0 0) = true ∧ xs.all L.part = true := by
  unfold L.name at h
  simp only [Bool.and_eq_true, decide_eq_true_eq] at h
  exact ⟨h.1.1.1.1, h.1.1.1.2, h.1.1.2, h.2⟩
theorem Sc.label_part {xs : List Int} (h : Na.label xs = true) : ∃ c r, xs = c :: r ∧ xs.length ≤ 12 ∧ Sc.letter c = true ∧ xs.all L.part = true := by
  unfold Na.label at h
  split at h
  · rename_i hc
    obtain ⟨h1, h2, h3, h4⟩ := Sc.name_part h
    cases xs with
    | nil => simp at hc
    | cons c r =>
      have hc1 : c = 95 := hc.2
      subst hc1
      refine ⟨95, r, rfl, h2, by decide, ?_⟩
      simp only [List.drop_succ_cons, List.drop_zero, List.all_cons, Bool.and_eq_true] at h4
      rw [List.all_cons, h4.2]; decide
  · obtain ⟨h1, h2, h3, h4⟩ := Sc.name_part h
    cases xs with
    | nil => simp at h1
    | cons c r =>
      refine ⟨c, r, rfl, h2, ?_, h4⟩
      unfold Sc.letter
      have : L.letter c = true := h3
      rw [this]; rfl
end Go.Proofs.YtpbgniffjlcbhaaDoor
