/-
  Package scan, plainly: how long what is told may be; where tokens stand when they are joined. No Go function is named here.
-/
import Derived.Test.YtpbgniffjlcbhaaDoorScQ
namespace Go.Proofs.YtpbgniffjlcbhaaDoor
set_option linter.unusedVariables false
set_option linter.unusedSimpArgs false
set_option maxRecDepth 100000
theorem Sc.one_len {xs : List Int} {p : Int} {x : Sc.Tk × Nat} (h : Sc.one xs p = .ok x) : x.1.t.length ≤ xs.length := by
  cases xs with
  | nil => cases h
  | cons c r =>
    rw [Sc.one_cons] at h
    split at h
    · cases h; exact Sc.word_le _
    · split at h
      · split at h
        · cases h; exact Sc.word_le _
        · cases h
      · split at h
        · cases h
          have := Sc.word_le r
          simp only [List.length_cons]; omega
        · split at h
          · cases h; simp
          · cases h
theorem Sc.run_len : ∀ (f : Nat) (x : List Int) (p : Int) (l : List Sc.Tk), x.length ≤ f → Sc.run x p = .ok l → l.length ≤ x.length ∧ ∀ t ∈ l, t.t.length ≤ x.length
  | _, [], p, l, _, h => by cases h; simp
  | 0, a :: x, p, l, hl, _ => by simp at hl
  | f + 1, a :: x, p, l, hl, h => by
    simp only [List.length_cons] at hl
    by_cases ha : a = 59
    · subst ha; cases h; simp
    cases hb : Sc.blank a with
    | true =>
      rw [Sc.run_blank _ _ hb] at h
      obtain ⟨h1, h2⟩ := Sc.run_len f x _ l (by omega) h
      simp only [List.length_cons]
      exact ⟨by omega, fun t ht => by have := h2 t ht; omega⟩
    | false =>
      cases ho : Sc.one (a :: x) p with
      | error e => rw [Sc.run_err ha hb ho] at h; cases h
      | ok t =>
        rw [Sc.run_tok ha hb ho] at h
        obtain ⟨g1, g2⟩ := Sc.one_size ho
        obtain ⟨m, h1, rfl⟩ := Sc.pre_ok h
        have hd : ((a :: x).drop t.2).length = (a :: x).length - t.2 := List.length_drop
        obtain ⟨h3, h4⟩ := Sc.run_len f _ _ m (by rw [hd]; simp only [List.length_cons] at g2 ⊢; omega) h1
        rw [hd] at h3 h4
        refine ⟨by simp only [List.length_cons] at h3 g2 ⊢; omega, fun u hu => ?_⟩
        rcases List.mem_cons.1 hu with rfl | hu
        · exact Sc.one_len ho
        · have := h4 u hu; omega
theorem Sc.line_len {x : List Int} {l : List Sc.Tk} (h : Sc.line x = .ok l) : l.length ≤ x.length ∧ ∀ t ∈ l, t.t.length ≤ x.length := Sc.run_len x.length x 0 l (Nat.le_refl _) h
theorem Sc.line_ok {x : List Int} {l : List Sc.Tk} (h : Sc.line x = .ok l) : ∀ t ∈ l, Sc.Ok t := Sc.run_ok x.length x 0 l (Nat.le_refl _) h
theorem Sc.line_errs {x : List Int} {e : Int} (h : Sc.line x = .error e) : e = 20 ∨ e = 21 := Sc.run_errs x.length x 0 e (Nat.le_refl _) h
theorem Sc.part_rng {c : Int} (h : L.part c = true) : 0 ≤ c ∧ c < 256 := by
  unfold L.part L.letter L.digit at h
  simp only [Bool.or_eq_true, Bool.and_eq_true, decide_eq_true_eq] at h
  omega
theorem Sc.sign_rng : ∀ c ∈ Sc.signs, 0 ≤ c ∧ c < 256 := by decide
theorem Sc.ok_byt {t : Sc.Tk} (h : Sc.Ok t) : L.Byt t.t := by
  have key : t.t.all L.part = true → L.Byt t.t := fun h x hx => Sc.part_rng (List.all_eq_true.1 h x hx)
  rcases h with h | h | h | h
  · exact key h.2.2.2
  · exact key h.2.2.1
  · exact key h.2.2.2
  · obtain ⟨_, _, c, h1, h2⟩ := h
    rw [h1]
    intro x hx
    obtain rfl : x = c := by simpa using hx
    unfold Sc.sign at h2
    exact Sc.sign_rng x (by simpa using h2)
theorem Sc.join_len {l : List Sc.Tk} {B : Nat} (h : ∀ t ∈ l, t.t.length ≤ B) : (Sc.join l).length ≤ l.length * (B + 2) := by
  induction l with
  | nil => simp [Sc.join]
  | cons t l ih =>
    have h1 := ih fun u hu => h u (List.mem_cons_of_mem _ hu)
    have h2 := h t (List.mem_cons_self ..)
    have h3 : (Sc.piece t).length ≤ B + 2 := by
      unfold Sc.piece Sc.dot
      simp only [List.length_append, List.length_cons, List.length_nil]
      split <;> simp <;> omega
    have h4 : (Sc.join (t :: l)).length = (Sc.piece t).length + (Sc.join l).length := by
      unfold Sc.join
      rw [List.flatMap_cons, List.length_append]
    rw [h4, List.length_cons, Nat.succ_mul]
    omega
theorem Sc.place_len : ∀ (l : List Sc.Tk) (p : Int), (Sc.place l p).length = l.length
  | [], _ => rfl
  | t :: l, p => by
    show (Sc.place l _).length + 1 = _
    rw [Sc.place_len l]; rfl
theorem Sc.place_at : ∀ (l : List Sc.Tk) (p : Int) (k : Nat) (y : Sc.Tk), l[k]? = some y → (Sc.place l p)[k]? = some { y with p := p + ((Sc.join (l.take k)).length : Int) }
  | [], p, k, y, h => by simp at h
  | t :: l, p, 0, y, h => by
    simp at h; subst h
    show some { t with p := p } = _
    simp [Sc.join]
  | t :: l, p, k + 1, y, h => by
    have h2 := Sc.place_at l (p + ((Sc.piece t).length : Int)) k y (by simpa using h)
    show (Sc.place l _)[k]? = _
    rw [h2]
    have : (Sc.join ((t :: l).take (k + 1))).length = (Sc.piece t).length + (Sc.join (l.take k)).length := by
      rw [List.take_succ_cons]
      unfold Sc.join
      rw [List.flatMap_cons, List.length_append]
    rw [this, show p + (((Sc.piece t).length + (Sc.join (l.take k)).length : Nat) : Int) = p + ((Sc.piece t).length : Int) + ((Sc.join (l.take k)).length : Int) by omega]
end Go.Proofs.YtpbgniffjlcbhaaDoor
