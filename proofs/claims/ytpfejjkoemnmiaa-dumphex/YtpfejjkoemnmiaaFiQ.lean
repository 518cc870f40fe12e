/-
  What follows, plainly, of package file: what was put is taken; no beginning of it, nothing longer; what is taken was put; which errors there are.
-/
import Derived.Test.YtpfejjkoemnmiaaM04
import Derived.Test.YtpfejjkoemnmiaaM06
import Derived.Test.YtpfejjkoemnmiaaM09
import Derived.Test.YtpfejjkoemnmiaaObQ
namespace Go.Proofs.Ytpfejjkoemnmiaa
open Go.RowKit
set_option linter.unusedVariables false
set_option linter.unusedSimpArgs false
set_option maxRecDepth 100000
theorem Fi.tn_put (xs ys : List Int) (h : L.name xs = true) : L.tnE (L.nameB xs ++ ys) = 0 ∧ L.tnX (L.nameB xs ++ ys) = xs ∧ L.first (L.nameB xs ++ ys) = xs.length := by
  have hl := L.nameB_len xs
  have hw := L.whole_le xs.length
  have e : L.nameB xs ++ ys = (xs.length : Int) :: (xs ++ (List.replicate (L.whole xs.length - (1 + xs.length)) 0 ++ ys)) := by
    rw [L.nameB_cons, List.cons_append, List.append_assoc]
  have hf : L.first (L.nameB xs ++ ys) = xs.length := by rw [e]; exact L.first_cons _ _
  have hX : L.tnX (L.nameB xs ++ ys) = xs := by rw [e]; exact L.tnX_cons _ _
  refine ⟨?_, hX, hf⟩
  refine L.tnE_ok (by rw [List.length_append]; omega) (by rw [hf, List.length_append]; omega) (by rw [hX]; exact h) ?_
  rw [hf, List.take_append_of_le_length (by omega), List.take_of_length_le (by omega), List.all_eq_true]
  intro z hz
  rw [L.nameB_cons, show 1 + xs.length = xs.length + 1 by omega, List.drop_succ_cons, List.drop_append_of_le_length (Nat.le_refl _), List.drop_length, List.nil_append] at hz
  exact decide_eq_true (List.eq_of_mem_replicate hz)
theorem Fi.one_len (y : Ob.Y) : (Fi.one y).length = L.whole (L.bs y.1).length + 4 := by
  unfold Fi.one
  rw [List.length_append, L.nameB_len]; rfl
/-- a name that may be, at a place that is a word -/
def Fi.OkY (y : Ob.Y) : Prop := Ob.Good y.1 ∧ 0 ≤ y.2 ∧ y.2 < 4294967296
theorem Fi.step_put (y : Ob.Y) (r : List Int) (h : Fi.OkY y) : Fi.step (Fi.one y ++ r) = .ok (y, r) := by
  obtain ⟨hE, hX, hf⟩ := Fi.tn_put (L.bs y.1) (L.four y.2 ++ r) h.1
  have e : Fi.one y ++ r = L.nameB (L.bs y.1) ++ (L.four y.2 ++ r) := by unfold Fi.one; rw [List.append_assoc]
  have hd : (Fi.one y ++ r).drop (Fi.used (Fi.one y ++ r)) = L.four y.2 ++ r := by
    unfold Fi.used
    rw [e, hf]
    exact List.drop_left' (L.nameB_len _)
  have hw : L.word (L.four y.2 ++ r) 0 = y.2 := by
    rw [Fi.four_put]; exact L.word_put [y.2] r 0 y.2 rfl h.2.1 h.2.2
  rw [Fi.step_yes (by rw [e]; exact hE) (by rw [hd]; simp [L.four]), hd, e, hX, L.str_bs, hw]
  rfl
theorem Fi.go_put : ∀ (ys : List Ob.Y) (r : List Int), (∀ y ∈ ys, Fi.OkY y) → Fi.go ys.length (Fi.names ys ++ r) = .ok (ys, r)
  | [], r, _ => rfl
  | y :: ys, r, h => by
    have e : Fi.names (y :: ys) ++ r = Fi.one y ++ (Fi.names ys ++ r) := by rw [show Fi.names (y :: ys) = Fi.one y ++ Fi.names ys from rfl, List.append_assoc]
    rw [List.length_cons]
    unfold Fi.go
    rw [e, Fi.step_put y _ (h y List.mem_cons_self)]
    simp only [Fi.go_put ys r (fun z hz => h z (List.mem_cons_of_mem _ hz))]
theorem Fi.step_cut (y : Ob.Y) (h : Ob.Good y.1) (j : Nat) (hj : j < (Fi.one y).length) : Fi.step ((Fi.one y).take j) = .error 3 := by
  have hl := L.nameB_len (L.bs y.1)
  rw [Fi.one_len] at hj
  by_cases c : j < L.whole (L.bs y.1).length
  · have e : (Fi.one y).take j = (L.nameB (L.bs y.1)).take j := by unfold Fi.one; rw [List.take_append_of_le_length (by omega)]
    have hE : L.tnE ((L.nameB (L.bs y.1)).take j) = 3 := by
      refine L.tnE_short ?_
      cases j with
      | zero => exact Or.inl rfl
      | succ i =>
        refine Or.inr ?_
        rw [L.nameB_cons, List.take_succ_cons, L.first_cons]
        have := List.length_take_le i (L.bs y.1 ++ List.replicate (L.whole (L.bs y.1).length - (1 + (L.bs y.1).length)) (0 : Int))
        simp only [List.length_cons]
        omega
    rw [e, Fi.step_no (by rw [hE]; decide), hE]
  · have e : (Fi.one y).take j = L.nameB (L.bs y.1) ++ (L.four y.2).take (j - L.whole (L.bs y.1).length) := by
      unfold Fi.one
      rw [List.take_append, List.take_of_length_le (by omega), hl]
    obtain ⟨hE, hX, hf⟩ := Fi.tn_put (L.bs y.1) ((L.four y.2).take (j - L.whole (L.bs y.1).length)) h
    rw [e]
    refine Fi.step_short hE ?_
    unfold Fi.used
    rw [hf, List.drop_left' hl, List.length_take]
    show min _ 4 < 4
    omega
theorem Fi.go_cut : ∀ (ys : List Ob.Y) (j : Nat), (∀ y ∈ ys, Fi.OkY y) → j < (Fi.names ys).length → Fi.go ys.length ((Fi.names ys).take j) = .error 3
  | [], j, _, hj => by simp [Fi.names] at hj
  | y :: ys, j, h, hj => by
    have h0 := h y List.mem_cons_self
    rw [show Fi.names (y :: ys) = Fi.one y ++ Fi.names ys from rfl] at hj ⊢
    rw [List.length_append] at hj
    rw [List.length_cons]
    unfold Fi.go
    by_cases c : j < (Fi.one y).length
    · rw [List.take_append_of_le_length (by omega), Fi.step_cut y h0.1 j c]
    · have e : (Fi.one y ++ Fi.names ys).take j = Fi.one y ++ (Fi.names ys).take (j - (Fi.one y).length) := by
        rw [List.take_append, List.take_of_length_le (by omega)]
      rw [e, Fi.step_put y _ h0]
      simp only [Fi.go_cut ys (j - (Fi.one y).length) (fun z hz => h z (List.mem_cons_of_mem _ hz)) (by omega)]
/-- an object whose bytes stand for it -/
structure Fi.Ok (W S : List Int) (Y : List Ob.Y) : Prop where
  hn : W.length ≤ 1024
  hy : Y.length ≤ 64
  hr : ∀ x ∈ W, 0 ≤ x ∧ x < 4294967296
  hR : Ch.Rises W.length S
  hF : Ch.Fits W S
  hN : ∀ y ∈ Y, Fi.OkY y
section
variable {W S : List Int} {Y : List Ob.Y}
theorem Fi.head_len (n h k : Int) : (L.put (Fi.head n h k)).length = 16 := by rw [L.put_len]; rfl
theorem Fi.head_words {n h k : Int} (n0 : 0 ≤ n) (n1 : n < 4294967296) (h0 : 0 ≤ h) (h1 : h < 4294967296) (k0 : 0 ≤ k) (k1 : k < 4294967296) (r : List Int) :
    L.word (L.put (Fi.head n h k) ++ r) 0 = 894847314 ∧ L.word (L.put (Fi.head n h k) ++ r) 4 = n ∧ L.word (L.put (Fi.head n h k) ++ r) 8 = h ∧ L.word (L.put (Fi.head n h k) ++ r) 12 = k :=
  ⟨L.word_put _ r 0 _ rfl (by decide) (by decide), L.word_put _ r 1 _ rfl n0 n1, L.word_put _ r 2 _ rfl h0 h1, L.word_put _ r 3 _ rfl k0 k1⟩
/-- a head, words, and whatever -/
theorem Fi.parts_head {P : List Int} {h k : Int} (hP : ∀ x ∈ P, 0 ≤ x ∧ x < 4294967296) (hn : P.length ≤ 1024) (h0 : 0 ≤ h) (h1 : h < 4294967296) (k0 : 0 ≤ k) (k1 : k ≤ 64) (r : List Int) :
    Fi.parts (L.put (Fi.head P.length h k) ++ (L.put P ++ r)) = match Fi.go k.toNat r with | .error e => .error e | .ok (ys, q) => if 0 < q.length then .error 4 else .ok (P, h, ys) := by
  obtain ⟨w0, w4, w8, w12⟩ := Fi.head_words (n := (P.length : Int)) (by omega) (by omega) h0 h1 k0 (by omega) (L.put P ++ r)
  have hl := L.put_len P
  have hd : (L.put (Fi.head P.length h k) ++ (L.put P ++ r)).drop 16 = L.put P ++ r := List.drop_left' (Fi.head_len _ _ _)
  unfold Fi.parts
  rw [w0, w4, w8, w12, hd, Int.toNat_natCast, if_neg (by rw [List.length_append, Fi.head_len]; omega), if_neg (by simp), if_neg (by omega), if_neg (by rw [List.length_append]; omega), List.drop_left' hl, L.words_put P r hP]
  generalize Fi.go k.toNat r = g
  cases g with
  | error e => rfl
  | ok p => rfl
theorem Fi.put_eq (r : List Int) : Fi.put W S Y ++ r = L.put (Fi.head W.length (Ch.prev S S.length + 1) Y.length) ++ (L.put (Ch.pk W S S.length) ++ (Fi.names Y ++ r)) := by
  unfold Fi.put
  simp only [List.append_assoc]
theorem Fi.Ok.head (h : Fi.Ok W S Y) : 0 ≤ Ch.prev S S.length + 1 ∧ Ch.prev S S.length + 1 < 4294967296 := by
  have h1 := Ch.prev_ge h.hR S.length (Nat.le_refl _)
  have h2 := Ch.prev_lt h.hR S.length (Nat.le_refl _)
  omega
theorem Fi.Ok.pk (h : Fi.Ok W S Y) : ∀ x ∈ Ch.pk W S S.length, 0 ≤ x ∧ x < 4294967296 := Ch.pk_rng h.hr h.hR h.hF _ (Nat.le_refl _)
theorem Fi.Ok.parts (h : Fi.Ok W S Y) (r : List Int) : Fi.parts (Fi.put W S Y ++ r) = if 0 < r.length then .error 4 else .ok (Ch.pk W S S.length, Ch.prev S S.length + 1, Y) := by
  have hl := Ch.pk_len W S S.length
  have := Fi.parts_head (k := (Y.length : Int)) h.pk (by rw [hl]; exact h.hn) h.head.1 h.head.2 (by omega) (by have := h.hy; omega) (Fi.names Y ++ r)
  rw [hl, Int.toNat_natCast, Fi.go_put Y r h.hN] at this
  rw [Fi.put_eq, this]
/-- what was put, and more: taken, or told -/
theorem Fi.Ok.take (h : Fi.Ok W S Y) (r : List Int) : Fi.take (Fi.put W S Y ++ r) = if 0 < r.length then .error 4 else if Ob.may W S Y = 0 then .ok (W, S, Y) else .error 6 := by
  unfold Fi.take
  rw [h.parts r]
  by_cases c : 0 < r.length
  · rw [if_pos c, if_pos c]
  · rw [if_neg c, if_neg c]
    obtain ⟨e1, e2, e3⟩ := Ch.u_back h.hR
    simp only [e1, e2, e3]
theorem Fi.Ok.cut (h : Fi.Ok W S Y) (i : Nat) (hi : i < (Fi.put W S Y).length) : Fi.take ((Fi.put W S Y).take i) = .error 3 := by
  have hl := Ch.pk_len W S S.length
  have hpl := L.put_len (Ch.pk W S S.length)
  have hh := Fi.head_len W.length (Ch.prev S S.length + 1) Y.length
  have e := Fi.put_eq (W := W) (S := S) (Y := Y) []
  rw [List.append_nil, List.append_nil] at e
  rw [e, List.length_append, List.length_append] at hi
  have hk : Fi.parts ((Fi.put W S Y).take i) = .error 3 := by
    rw [e]
    by_cases c : i < 16
    · unfold Fi.parts
      rw [if_pos (by rw [List.length_take]; omega)]
    · have e1 : (L.put (Fi.head W.length (Ch.prev S S.length + 1) Y.length) ++ (L.put (Ch.pk W S S.length) ++ Fi.names Y)).take i = L.put (Fi.head W.length (Ch.prev S S.length + 1) Y.length) ++ (L.put (Ch.pk W S S.length) ++ Fi.names Y).take (i - 16) := by
        rw [List.take_append, List.take_of_length_le (by omega), hh]
      rw [e1]
      by_cases d : i - 16 < 4 * W.length
      · rw [List.take_append_of_le_length (by omega)]
        have hn := h.hn
        have hy := h.hy
        obtain ⟨w0, w4, w8, w12⟩ := Fi.head_words (n := (W.length : Int)) (h := Ch.prev S S.length + 1) (k := (Y.length : Int)) (by omega) (by omega) h.head.1 h.head.2 (by omega) (by omega) ((L.put (Ch.pk W S S.length)).take (i - 16))
        unfold Fi.parts
        rw [w0, w4, w8, w12, List.drop_left' hh, Int.toNat_natCast, if_neg (by rw [List.length_append]; omega), if_neg (by simp), if_neg (by omega), if_pos (by rw [List.length_take]; omega)]
      · have e2 : (L.put (Ch.pk W S S.length) ++ Fi.names Y).take (i - 16) = L.put (Ch.pk W S S.length) ++ (Fi.names Y).take (i - 16 - 4 * W.length) := by
          rw [List.take_append, List.take_of_length_le (by omega), hpl, hl]
        rw [e2]
        have := Fi.parts_head (k := (Y.length : Int)) h.pk (by rw [hl]; exact h.hn) h.head.1 h.head.2 (by omega) (by have := h.hy; omega) ((Fi.names Y).take (i - 16 - 4 * W.length))
        rw [hl, Int.toNat_natCast, Fi.go_cut Y _ h.hN (by omega)] at this
        exact this
  unfold Fi.take
  rw [hk]
theorem Fi.may_ok (hr : ∀ x ∈ W, 0 ≤ x ∧ x < 4294967296) (h : Ob.may W S Y = 0) : Fi.Ok W S Y := by
  unfold Ob.may at h
  split at h
  · cases h
  rename_i h1
  split at h
  · rename_i h2
    split at h
    · rename_i h3
      split at h
      · rename_i h4
        split at h
        · rename_i h5
          refine ⟨by omega, by omega, hr, h2, fun k hk => ?_, fun y hy => ⟨((Ob.names_iff Y).1 h4).1 y hy, ?_⟩⟩
          · have := h3 k hk
            unfold Ob.LowAt at this
            omega
          · have := (Ob.places_iff _ Y).1 h5 y hy
            omega
        · cases h
      · cases h
    · cases h
  · cases h
theorem Fi.Ok.pack (h : Fi.Ok W S Y) : Ch.pE W S = 0 ∧ Ch.pH W S = Ch.prev S S.length + 1 ∧ Ch.pW W S = Ch.pk W S S.length := Ch.pE_yes h.hR h.hF
theorem Fi.put_len4 : (Fi.put W S Y).length % 4 = 0 := by
  have hN : (Fi.names Y).length % 4 = 0 := by
    induction Y with
    | nil => rfl
    | cons y ys ih =>
      rw [show Fi.names (y :: ys) = Fi.one y ++ Fi.names ys from rfl, List.length_append, Fi.one_len]
      have := (L.whole_le (L.bs y.1).length).2.2
      omega
  unfold Fi.put
  rw [List.length_append, List.length_append, Fi.head_len, L.put_len]
  omega
end
/-! what is taken -/
theorem Fi.step_taken {bs r : List Int} {y : Ob.Y} (hb : L.Byt bs) (h : Fi.step bs = .ok (y, r)) : Fi.one y ++ r = bs ∧ Fi.OkY y ∧ y.1.size ≤ 12 := by
  obtain ⟨h0, h1, rfl, rfl⟩ := Fi.step_ok h
  have hc : ¬ bs.length = 0 ∧ ¬ bs.length < L.whole (L.first bs) ∧ L.name (L.tnX bs) = true ∧ ((bs.take (L.whole (L.first bs))).drop (1 + L.first bs)).all (fun x => decide (x = 0)) = true := by
    rcases L.tnE_cases bs with q | q | q | q
    · rw [q] at h0; cases h0
    · rw [q] at h0; cases h0
    · rw [q] at h0; cases h0
    · exact q.2
  obtain ⟨c1, c2, c3, c4⟩ := hc
  obtain ⟨e1, e2⟩ := L.tn_taken bs hb c1 c2 c4
  have e3 := L.bs_str (L.tnX bs) (L.tnX_byt hb)
  have hw := L.word_rng _ (Fi.drop_byt hb (Fi.used bs)) 0
  refine ⟨?_, ⟨?_, hw.1, hw.2⟩, ?_⟩
  · unfold Fi.one
    simp only []
    rw [e3, e2, L.four_word _ (Fi.drop_byt hb _) 0 (by omega), List.drop_zero, Nat.zero_add, List.append_assoc, List.take_append_drop]
    exact List.take_append_drop _ _
  · show L.name (L.bs (strOfNums (L.tnX bs))) = true
    rw [e3]; exact c3
  · show (strOfNums (L.tnX bs)).size ≤ 12
    rw [strOfNums_size]
    exact (L.name_len c3).2
theorem Fi.go_taken : ∀ (k : Nat) (bs : List Int) (ys : List Ob.Y) (r : List Int), L.Byt bs → Fi.go k bs = .ok (ys, r) → ys.length = k ∧ Fi.names ys ++ r = bs ∧ ∀ y ∈ ys, Fi.OkY y ∧ y.1.size ≤ 12
  | 0, bs, ys, r, hb, h => by
    cases h
    exact ⟨rfl, rfl, by simp⟩
  | k + 1, bs, ys, r, hb, h => by
    unfold Fi.go at h
    cases hs : Fi.step bs with
    | error e => rw [hs] at h; cases h
    | ok p =>
      obtain ⟨y, q⟩ := p
      rw [hs] at h
      obtain ⟨h1, h2, h3⟩ := Fi.step_taken hb hs
      have hq : L.Byt q := fun x hx => hb x (by rw [← h1]; exact List.mem_append_right _ hx)
      cases hg : Fi.go k q with
      | error e => simp only [hg] at h; cases h
      | ok p =>
        obtain ⟨zs, t⟩ := p
        simp only [hg] at h
        cases h
        obtain ⟨g1, g2, g3⟩ := Fi.go_taken k q zs r hq hg
        refine ⟨by simp [g1], ?_, fun z hz => ?_⟩
        · rw [show Fi.names (y :: zs) = Fi.one y ++ Fi.names zs from rfl, List.append_assoc, g2, h1]
        · rcases List.mem_cons.1 hz with rfl | hz
          · exact ⟨h2, h3⟩
          · exact g3 z hz
/-- the errors that there are -/
def Fi.Err (e : Int) : Prop := e = 2 ∨ e = 3 ∨ e = 4 ∨ e = 5 ∨ e = 6 ∨ e = 9 ∨ e = 10
theorem Fi.step_err {bs : List Int} {e : Int} (h : Fi.step bs = .error e) : Fi.Err e := by
  unfold Fi.step at h
  unfold Fi.Err
  split at h
  · split at h
    · cases h; omega
    · cases h
  · cases h
    rcases L.tnE_cases bs with q | q | q | q
    · omega
    · omega
    · omega
    · rename_i q0; exact absurd q.1 q0
theorem Fi.go_err : ∀ (k : Nat) (bs : List Int) (e : Int), Fi.go k bs = .error e → Fi.Err e
  | 0, bs, e, h => by cases h
  | k + 1, bs, e, h => by
    unfold Fi.go at h
    cases hs : Fi.step bs with
    | error e => rw [hs] at h; cases h; exact Fi.step_err hs
    | ok p =>
      obtain ⟨y, q⟩ := p
      rw [hs] at h
      cases hg : Fi.go k q with
      | error e => simp only [hg] at h; cases h; exact Fi.go_err k q _ hg
      | ok p => simp only [hg] at h; cases h
theorem Fi.parts_taken {bs P : List Int} {h : Int} {ys : List Ob.Y} (hb : L.Byt bs) (H : Fi.parts bs = .ok (P, h, ys)) :
    P.length ≤ 1024 ∧ ys.length ≤ 64 ∧ L.put (Fi.head P.length h ys.length) ++ (L.put P ++ Fi.names ys) = bs ∧ (∀ y ∈ ys, Fi.OkY y ∧ y.1.size ≤ 12) ∧ (∀ x ∈ P, 0 ≤ x ∧ x < 4294967296) := by
  unfold Fi.parts at H
  split at H
  · cases H
  rename_i c1
  split at H
  · cases H
  rename_i c2
  split at H
  · cases H
  rename_i c3
  split at H
  · cases H
  rename_i c4
  cases hg : Fi.go (L.word bs 12).toNat ((bs.drop 16).drop (4 * (L.word bs 4).toNat)) with
  | error e => simp only [hg] at H; cases H
  | ok p =>
    obtain ⟨zs, r⟩ := p
    simp only [hg] at H
    split at H
    · cases H
    rename_i c5
    cases H
    have hr : r = [] := List.eq_nil_of_length_eq_zero (by omega)
    subst hr
    have h4 := L.word_rng bs hb 4
    have h12 := L.word_rng bs hb 12
    have hd := Fi.drop_byt hb 16
    obtain ⟨g1, g2, g3⟩ := Fi.go_taken _ _ _ _ (Fi.drop_byt hd _) hg
    rw [List.append_nil] at g2
    have hl : (L.words (bs.drop 16) (L.word bs 4).toNat).length = (L.word bs 4).toNat := by simp [L.words]
    refine ⟨by omega, by omega, ?_, g3, L.words_rng _ hd _⟩
    rw [hl, g1, g2, L.put_words _ hd _ (by omega), List.take_append_drop]
    rw [show (((L.word bs 4).toNat : Nat) : Int) = L.word bs 4 by omega, show (((L.word bs 12).toNat : Nat) : Int) = L.word bs 12 by omega]
    have e : Fi.head (L.word bs 4) (L.word bs 8) (L.word bs 12) = L.words bs 4 := by
      unfold Fi.head
      rw [show (894847314 : Int) = L.word bs 0 from (Decidable.not_not.1 c2).symm]
      rfl
    rw [e, L.put_words bs hb 4 (by omega)]
    exact List.take_append_drop 16 bs
theorem Fi.parts_err {bs : List Int} {e : Int} (H : Fi.parts bs = .error e) : Fi.Err e := by
  unfold Fi.parts at H
  unfold Fi.Err
  split at H
  · cases H; omega
  split at H
  · cases H; omega
  split at H
  · cases H; omega
  split at H
  · cases H; omega
  cases hg : Fi.go (L.word bs 12).toNat ((bs.drop 16).drop (4 * (L.word bs 4).toNat)) with
  | error e => simp only [hg] at H; cases H; exact Fi.go_err _ _ _ hg
  | ok p =>
    simp only [hg] at H
    split at H
    · cases H; omega
    · cases H
theorem Fi.take_err {bs : List Int} {e : Int} (H : Fi.take bs = .error e) : Fi.Err e := by
  unfold Fi.take at H
  cases hp : Fi.parts bs with
  | error e => simp only [hp] at H; cases H; exact Fi.parts_err hp
  | ok p =>
    obtain ⟨P, h, ys⟩ := p
    simp only [hp] at H
    unfold Fi.Err
    cases hR : Ch.R P h with
    | none => simp only [hR] at H; cases H; omega
    | some d =>
      simp only [hR] at H
      split at H
      · cases H
      · cases H; omega
/-- what is taken was put -/
theorem Fi.taken {bs W S : List Int} {Y : List Ob.Y} (hb : L.Byt bs) (H : Fi.take bs = .ok (W, S, Y)) : Ob.may W S Y = 0 ∧ Fi.put W S Y = bs ∧ (∀ x ∈ W, 0 ≤ x ∧ x < 4294967296) ∧ ∀ y ∈ Y, y.1.size ≤ 1000000 := by
  unfold Fi.take at H
  cases hp : Fi.parts bs with
  | error e => simp only [hp] at H; cases H
  | ok p =>
    obtain ⟨P, h, ys⟩ := p
    simp only [hp] at H
    obtain ⟨c1, c2, c3, c4, c5⟩ := Fi.parts_taken hb hp
    cases hR : Ch.R P h with
    | none => simp only [hR] at H; cases H
    | some d =>
      simp only [hR] at H
      split at H
      · rename_i hm
        cases H
        obtain ⟨h1, h2, h3, h4⟩ := Ch.again (by omega) c5 hR
        refine ⟨hm, ?_, Ch.uW_rng c5 _, fun y hy => by have := (c4 y hy).2; omega⟩
        rw [← c3]
        unfold Fi.put
        rw [show Ch.pk (Ch.uW P (some d)) (Ch.uS (some d)) (Ch.uS (some d)).length = P from h3, show Ch.prev (Ch.uS (some d)) (Ch.uS (some d)).length + 1 = h from h4, show (Ch.uW P (some d)).length = P.length from Ch.un_length P d, List.append_assoc]
      · cases H
theorem Fi.tY_size {bs : List Int} (hb : L.Byt bs) : ∀ y ∈ Fi.tY (Fi.take bs), y.1.size ≤ 1000000 := by
  cases h : Fi.take bs with
  | error e => intro y hy; cases hy
  | ok p => obtain ⟨W, S, Y⟩ := p; exact (Fi.taken hb h).2.2.2
theorem Fi.tW_rng {bs : List Int} (hb : L.Byt bs) : ∀ x ∈ Fi.tW (Fi.take bs), 0 ≤ x ∧ x < 4294967296 := by
  cases h : Fi.take bs with
  | error e => intro y hy; cases hy
  | ok p => obtain ⟨W, S, Y⟩ := p; exact (Fi.taken hb h).2.2.1
/-! files of words alone -/
theorem Fi.put_words (w : List Int) : L.put [894847314, (w.length : Int), 0, 0] ++ L.put w = Fi.put w [] [] := by
  unfold Fi.put
  rw [show Fi.names [] = [] from rfl, List.append_nil]; rfl
theorem Fi.ok_words {w : List Int} (hn : w.length ≤ 1024) (hr : ∀ x ∈ w, 0 ≤ x ∧ x < 4294967296) : Fi.Ok w [] [] ∧ Ob.may w [] [] = 0 := by
  have hR : Ch.Rises w.length [] := fun k hk => by simp at hk
  refine ⟨⟨hn, by simp, hr, hR, fun k hk => by simp at hk, by simp⟩, Ob.may_0 (by simp; omega) hR (fun k hk => by simp at hk) (fun k hk => by simp at hk) (fun k hk => by simp at hk)⟩
theorem Fi.take_words {w : List Int} (hn : w.length ≤ 1024) (hr : ∀ x ∈ w, 0 ≤ x ∧ x < 4294967296) : Fi.take (L.put [894847314, (w.length : Int), 0, 0] ++ L.put w) = .ok (w, [], []) := by
  obtain ⟨h1, h2⟩ := Fi.ok_words hn hr
  have := h1.take []
  rw [List.append_nil, if_neg (by simp), if_pos h2] at this
  rw [Fi.put_words, this]
theorem Fi.take_first {f n h k : Int} (f0 : 0 ≤ f) (f1 : f < 4294967296) (hf : f ≠ 894847314) (r : List Int) : Fi.take (L.put [f, n, h, k] ++ r) = .error 5 := by
  have w0 : L.word (L.put [f, n, h, k] ++ r) 0 = f := L.word_put _ r 0 _ rfl f0 f1
  have hl : (L.put [f, n, h, k]).length = 16 := by rw [L.put_len]; rfl
  unfold Fi.take Fi.parts
  rw [if_neg (by rw [List.length_append]; omega), w0, if_pos hf]
theorem Fi.take_big {n h k : Int} (n0 : 0 ≤ n) (n1 : n < 4294967296) (k0 : 0 ≤ k) (k1 : k < 4294967296) (hb : 1024 < n ∨ 64 < k) : Fi.take (L.put [894847314, n, h, k]) = .error 2 := by
  have e : L.put [894847314, n, h, k] = L.put [894847314, n, h, k] ++ [] := (List.append_nil _).symm
  have w0 : L.word (L.put [894847314, n, h, k] ++ []) 0 = 894847314 := L.word_put _ _ 0 _ rfl (by decide) (by decide)
  have w4 : L.word (L.put [894847314, n, h, k] ++ []) 4 = n := L.word_put _ _ 1 _ rfl n0 n1
  have w12 : L.word (L.put [894847314, n, h, k] ++ []) 12 = k := L.word_put _ _ 3 _ rfl k0 k1
  have hl : (L.put [894847314, n, h, k]).length = 16 := by rw [L.put_len]; rfl
  unfold Fi.take Fi.parts
  rw [e, if_neg (by rw [List.length_append]; omega), w0, if_neg (by simp), w4, w12, if_pos hb]
theorem Fi.take_far {w : List Int} (hn : w.length ≤ 1024) (hr : ∀ x ∈ w, 0 ≤ x ∧ x < 4294967296) {h : Int} (h0 : (w.length : Int) < h) (h1 : h < 4294967296) : Fi.take (L.put [894847314, (w.length : Int), h, 0] ++ L.put w) = .error 10 := by
  have := Fi.parts_head (P := w) (h := h) (k := 0) hr hn (by omega) h1 (by omega) (by omega) []
  rw [List.append_nil] at this
  unfold Fi.take
  rw [show L.put [894847314, (w.length : Int), h, 0] = L.put (Fi.head w.length h 0) from rfl, this]
  simp only [show Fi.go (0 : Int).toNat [] = .ok ([], []) from rfl, List.length_nil, Nat.lt_irrefl, if_false, Ch.R_out (Or.inr h0)]
/-! two names -/
def Fi.sx : ByteArray := ⟨#[120]⟩
def Fi.sy : ByteArray := ⟨#[121]⟩
theorem Fi.set12 (n h k : Int) (r : List Int) (k0 : 0 ≤ k) (k1 : k < 256) : (L.put (Fi.head n h 0) ++ r).set 12 k = L.put (Fi.head n h k) ++ r := by
  have e : L.four k = [k, 0, 0, 0] := by unfold L.four; simp only [List.cons.injEq, and_true]; omega
  have e0 : L.four 0 = [0, 0, 0, 0] := by decide
  simp only [Fi.head, L.put, List.flatMap_cons, List.flatMap_nil, e, e0]
  rfl
theorem Fi.bxy : Ob.bl Fi.sx Fi.sy = true := by decide +kernel
theorem Fi.gx : Ob.Good Fi.sx := by unfold Ob.Good; decide +kernel
theorem Fi.gy : Ob.Good Fi.sy := by unfold Ob.Good; decide +kernel
theorem Fi.nx : L.nameB (L.bs Fi.sx) = [1, 120, 0, 0] := by decide +kernel
theorem Fi.ny : L.nameB (L.bs Fi.sy) = [1, 121, 0, 0] := by decide +kernel
section
variable {W S : List Int}
theorem Fi.two_ok (h : Ob.Fine W S []) {a b : ByteArray} (ha : Ob.Good a) (hb : Ob.Good b) {p : Int} (p0 : 0 ≤ p) (p1 : p < 65536) : Fi.Ok W S [(a, p), (b, p)] := by
  have hn := h.hn
  refine ⟨by omega, by simp, h.hr, h.hR, (Fi.may_ok h.hr h.ok).hF, fun y hy => ?_⟩
  simp only [List.mem_cons, List.not_mem_nil, or_false] at hy
  rcases hy with rfl | rfl
  · exact ⟨ha, p0, by show p < _; omega⟩
  · exact ⟨hb, p0, by show p < _; omega⟩
theorem Fi.two_rise (h : Ob.Fine W S []) {p : Int} (p0 : 0 ≤ p) (p1 : p < 65536) : Ob.may W S [(Fi.sx, p), (Fi.sy, p)] = if p % 4 = 0 ∧ p ≤ 4 * (W.length : Int) then 0 else 8 := by
  have hn := h.hn
  have hN : Ob.Names [(Fi.sx, p), (Fi.sy, p)] := (Ob.names_iff _).2 ⟨fun y hy => by
    simp only [List.mem_cons, List.not_mem_nil, or_false] at hy
    rcases hy with rfl | rfl
    · exact Fi.gx
    · exact Fi.gy, by simp [Fi.bxy]⟩
  split
  · rename_i c
    refine Ob.may_0 (by simp; omega) h.hR h.hL hN ((Ob.places_iff _ _).2 fun y hy => ?_)
    simp only [List.mem_cons, List.not_mem_nil, or_false] at hy
    rcases hy with rfl | rfl <;> exact ⟨p0, c.2, c.1⟩
  · rename_i c
    refine Ob.may_88 (by simp; omega) h.hR h.hL hN fun hP => c ?_
    have := (Ob.places_iff _ _).1 hP (Fi.sx, p) (by simp)
    exact ⟨this.2.2, this.2.1⟩
theorem Fi.two_fall (h : Ob.Fine W S []) {p : Int} : Ob.may W S [(Fi.sy, p), (Fi.sx, p)] = 9 := by
  have hn := h.hn
  refine Ob.may_9 (by simp; omega) h.hR h.hL fun hN => ?_
  have := ((Ob.names_iff _).1 hN).2
  simp only [List.pairwise_cons, List.mem_cons, List.not_mem_nil, or_false, forall_eq] at this
  have h2 := Ob.lt_trans Fi.bxy this.1
  rw [Ob.lt_irr] at h2
  cases h2
end
end Go.Proofs.Ytpfejjkoemnmiaa
