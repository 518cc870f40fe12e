/-
  The contracts of strings.CutPrefix of "R", isLikeRegister, Label; the document's Label.
-/
import Derived.Test.YtkkoihhkfophnaaDoorNa2
namespace Go.Proofs.YtkkoihhkfophnaaDoor
open Go.RowKit
set_option linter.unusedVariables false
set_option linter.unusedSimpArgs false
set_option maxRecDepth 100000
set_option maxRecDepth 100000 in
theorem Na.has_any (s : ByteArray) (hs : s.size ≤ 1000000) (w : World) : Calls Tryd.prog 40 #[.string s, .string ⟨#[82]⟩] w fun e w' => e = .returned (.bool (decide ((L.bs s).getD 0 0 = 82))) ∧ w = w' := by
  have hl := L.bs_len s
  have hs1 : (s.size : Int) ≤ 1000000 := by omega
  by_cases c0 : s.size = 0
  · have e : L.bs s = [] := List.eq_nil_of_length_eq_zero (by omega)
    rw [e]
    have c1 : ¬ (1 : Int) ≤ (s.size : Int) := by omega
    clear hl e
    go_enter Tryd.func40, Tryd.ntmps40
    go_wp2
    go_ret
    exact ⟨rfl, rfl⟩
  · obtain ⟨x, hx⟩ : ∃ x, (L.bs s)[0]? = some x := ⟨_, List.getElem?_eq_getElem (by omega)⟩
    have hg : (L.bs s).getD 0 0 = x := by rw [List.getD_eq_getElem?_getD, hx]; rfl
    rw [hg]
    have c1 : (1 : Int) ≤ (s.size : Int) := by omega
    obtain ⟨q, hq⟩ : ∃ q, q = decide (x = 82) := ⟨_, rfl⟩
    have he : ((ByteArray.extract s 0 1).toList == [82]) = q := by
      rw [Na.list_at, Na.bs_extract, hq]
      cases hb : L.bs s with
      | nil => rw [hb] at hx; simp at hx
      | cons y r => rw [hb] at hx; simp at hx; subst hx; simp
    rw [← hq]
    clear hl hx hg hq
    go_enter Tryd.func40, Tryd.ntmps40
    go_wp2
    go_ret
    exact ⟨rfl, rfl⟩
theorem Na.tail_eq (s : ByteArray) : s.extract 1 s.size = strOfNums ((L.bs s).drop 1) := by
  have h : L.bs (s.extract 1 s.size) = (L.bs s).drop 1 := by
    rw [Na.bs_extract, List.take_of_length_le (by rw [List.length_drop, L.bs_len]; exact Nat.le_refl _)]
  rw [← h, L.str_bs]
/-- what CutPrefix of R hands back -/
def Na.cutV (s : ByteArray) : Value := if (L.bs s).getD 0 0 = 82 then .tuple #[.string (strOfNums ((L.bs s).drop 1)), .bool true] else .tuple #[.string s, .bool false]
set_option maxRecDepth 100000 in
theorem Na.lcut_any (s : ByteArray) (hs : s.size ≤ 1000000) (w : World) : Calls Tryd.prog 38 #[.string s, .string ⟨#[82]⟩] w fun e w' => e = .returned (Na.cutV s) ∧ w = w' := by
  have hl := L.bs_len s
  have hs1 : (s.size : Int) ≤ 1000000 := by omega
  have C := Lib.hid (Na.has_any s hs w)
  unfold Na.cutV
  by_cases c : (L.bs s).getD 0 0 = 82
  · rw [if_pos c, ← Na.tail_eq]
    rw [decide_eq_true c] at C
    have c0 : s.size ≠ 0 := fun q => by
      have e : L.bs s = [] := List.eq_nil_of_length_eq_zero (by omega)
      rw [e] at c; simp at c
    have c1 : (1 : Int) ≤ (s.size : Int) := by omega
    clear c hl
    go_enter Tryd.func38, Tryd.ntmps38
    go_wp2_with (fail)
    refine C.out.mono ?_; rintro e w2 ⟨rfl, rfl⟩
    go_wp2
    go_ret2
    exact ⟨rfl, rfl⟩
  · rw [if_neg c]
    rw [decide_eq_false c] at C
    clear c hl
    go_enter Tryd.func38, Tryd.ntmps38
    go_wp2_with (fail)
    refine C.out.mono ?_; rintro e w2 ⟨rfl, rfl⟩
    go_wp2
    go_ret2
    exact ⟨rfl, rfl⟩
set_option maxRecDepth 100000 in
theorem Na.cut_any (s : ByteArray) (hs : s.size ≤ 1000000) (w : World) : Calls Tryd.prog 33 #[.string s, .string ⟨#[82]⟩] w fun e w' => e = .returned (Na.cutV s) ∧ w = w' := by
  have C := Lib.hid (Na.lcut_any s hs w)
  unfold Na.cutV at C ⊢
  split at C
  · rename_i c
    rw [if_pos c]
    generalize strOfNums ((L.bs s).drop 1) = t at *
    clear c
    go_enter Tryd.func33, Tryd.ntmps33
    go_wp2_with (fail)
    refine C.out.mono ?_; rintro e w2 ⟨rfl, rfl⟩
    go_wp2
    go_ret2
    exact ⟨rfl, rfl⟩
  · rename_i c
    rw [if_neg c]
    clear c
    go_enter Tryd.func33, Tryd.ntmps33
    go_wp2_with (fail)
    refine C.out.mono ?_; rintro e w2 ⟨rfl, rfl⟩
    go_wp2
    go_ret2
    exact ⟨rfl, rfl⟩
set_option maxRecDepth 100000 in
theorem Na.like_any (s : ByteArray) (hs : s.size ≤ 1000000) (w : World) : Calls Tryd.prog 26 #[.string s] w fun e w' => e = .returned (.bool (L.reg (L.bs s))) ∧ w = w' := by
  have hl := L.bs_len s
  have hs1 : (s.size : Int) ≤ 1000000 := by omega
  have C := Lib.hid (Na.cut_any s hs w)
  unfold Na.cutV at C
  by_cases c : (L.bs s).getD 0 0 = 82
  · rw [if_pos c] at C
    have hc0 : s.size ≠ 0 := fun q => by
      have e : L.bs s = [] := List.eq_nil_of_length_eq_zero (by omega)
      rw [e] at c; simp at c
    obtain ⟨t, ht⟩ : ∃ t, t = strOfNums ((L.bs s).drop 1) := ⟨_, rfl⟩
    have htb : L.bs t = (L.bs s).drop 1 := by rw [ht]; exact L.bs_str _ (fun x hx => L.bs_rng s x (List.mem_of_mem_drop hx))
    have hts : t.size = s.size - 1 := by rw [← L.bs_len, htb, List.length_drop, hl]
    rw [← ht] at C
    have E := Lib.hid (Na.eachD_any t (by omega) w)
    rw [htb] at E
    have ht1 : (t.size : Int) ≤ 1000000 := by omega
    clear ht
    by_cases c1 : t.size < 1
    · rw [L.reg_no (Or.inl (by omega))]
      have c2 : ¬ (1 : Int) ≤ (t.size : Int) := by omega
      clear htb hts E c hl
      go_enter Tryd.func26, Tryd.ntmps26
      go_wp2_with (fail)
      refine C.out.mono ?_; rintro e w2 ⟨rfl, rfl⟩
      go_wp2
      go_ret
      exact ⟨rfl, rfl⟩
    · have c2 : (1 : Int) ≤ (t.size : Int) := by omega
      by_cases c3 : 2 < t.size
      · rw [L.reg_no (Or.inr (Or.inl (by omega)))]
        have c4 : ¬ (t.size : Int) ≤ 2 := by omega
        clear htb hts E c hl
        go_enter Tryd.func26, Tryd.ntmps26
        go_wp2_with (fail)
        refine C.out.mono ?_; rintro e w2 ⟨rfl, rfl⟩
        go_wp2
        go_ret
        exact ⟨rfl, rfl⟩
      · rw [L.reg_yes (by omega) (by omega) c]
        have c4 : (t.size : Int) ≤ 2 := by omega
        generalize ((L.bs s).drop 1).all L.digit = q at *
        clear htb hts c hl
        go_enter Tryd.func26, Tryd.ntmps26
        go_wp2_with (fail)
        refine C.out.mono ?_; rintro e w2 ⟨rfl, rfl⟩
        go_wp2_with (fail)
        refine E.out.mono ?_; rintro e w2 ⟨rfl, rfl⟩
        go_wp2
        go_ret
        exact ⟨rfl, rfl⟩
  · rw [if_neg c] at C
    rw [L.reg_no (Or.inr (Or.inr c))]
    clear c hl
    go_enter Tryd.func26, Tryd.ntmps26
    go_wp2_with (fail)
    refine C.out.mono ?_; rintro e w2 ⟨rfl, rfl⟩
    go_wp2
    go_ret
    exact ⟨rfl, rfl⟩
theorem Na.label_len {xs : List Int} (h : xs.length < 1 ∨ 12 < xs.length) : Na.label xs = false := by
  rw [Na.label_eq, decide_eq_false (by omega)]; rfl
theorem Na.label_dig {xs : List Int} {x : Int} (hx : xs.getD 0 0 = x) (h : L.digit x = true) : Na.label xs = false := by
  rw [Na.label_eq, hx]
  unfold L.digit at h
  simp only [Bool.and_eq_true, decide_eq_true_eq] at h
  have h1 : L.letter x = false := by unfold L.letter; simp; omega
  rw [h1, decide_eq_false (show ¬ x = 95 by omega)]
  simp
theorem Na.label_rest {xs : List Int} {x : Int} (hx : xs[0]? = some x) (h1 : 1 ≤ xs.length) (h2 : xs.length ≤ 12) (h : L.digit x = false) : Na.label xs = (xs.all L.part && !L.reg xs) := by
  have hg : xs.getD 0 0 = x := by rw [List.getD_eq_getElem?_getD, hx]; rfl
  rw [Na.label_eq, decide_eq_true ⟨h1, h2⟩, hg]
  cases p : xs.all L.part with
  | false => simp
  | true =>
    have h3 := List.all_eq_true.1 p x (List.mem_of_getElem? hx)
    unfold L.part at h3
    rw [h] at h3
    simp only [Bool.or_false] at h3
    rw [h3]
    cases L.reg xs <;> rfl
set_option maxRecDepth 100000 in
theorem Na.label_any (s : ByteArray) (hs : s.size ≤ 1000000) (w : World) : Calls Tryd.prog 14 #[.string s] w fun e w' => e = .returned (.bool (Na.label (L.bs s))) ∧ w = w' := by
  have hl := L.bs_len s
  have hs1 : (s.size : Int) ≤ 1000000 := by omega
  by_cases c1 : s.size < 1
  · rw [Na.label_len (Or.inl (by omega))]
    have c2 : ¬ (1 : Int) ≤ (s.size : Int) := by omega
    go_enter Tryd.func14, Tryd.ntmps14
    go_wp2
    go_ret
    exact ⟨rfl, rfl⟩
  have c2 : (1 : Int) ≤ (s.size : Int) := by omega
  by_cases c3 : 12 < s.size
  · rw [Na.label_len (Or.inr (by omega))]
    have c4 : ¬ (s.size : Int) ≤ 12 := by omega
    go_enter Tryd.func14, Tryd.ntmps14
    go_wp2
    go_ret
    exact ⟨rfl, rfl⟩
  have c4 : (s.size : Int) ≤ 12 := by omega
  obtain ⟨x, hx⟩ : ∃ x, (L.bs s)[0]? = some x := ⟨_, List.getElem?_eq_getElem (by omega)⟩
  have hg : (L.bs s).getD 0 0 = x := by rw [List.getD_eq_getElem?_getD, hx]; rfl
  obtain ⟨hk, hxs⟩ := L.at_of hx
  have hk0 : (0 : Int) < (s.size : Int) := by omega
  have E := Lib.hid (Na.eachP_any s hs w)
  have C := Lib.hid (Na.like_any s hs w)
  cases p : L.digit x with
  | true =>
    rw [Na.label_dig hg p]
    clear hx hg E C hl
    go_enter Tryd.func14, Tryd.ntmps14
    go_wp2_with (fail)
    refine (Na.isDigit_any x w).mono ?_; rintro e w2 ⟨rfl, rfl⟩
    rw [p]
    go_wp2
    go_ret
    exact ⟨rfl, rfl⟩
  | false =>
    rw [Na.label_rest hx (by omega) (by omega) p]
    clear hx hg hl
    cases q : (L.bs s).all L.part with
    | false =>
      rw [q] at E
      generalize L.reg (L.bs s) = r at *
      clear q
      go_enter Tryd.func14, Tryd.ntmps14
      go_wp2_with (fail)
      refine (Na.isDigit_any x w).mono ?_; rintro e w2 ⟨rfl, rfl⟩
      rw [p]
      go_wp2_with (fail)
      refine E.out.mono ?_; rintro e w2 ⟨rfl, rfl⟩
      go_wp2
      go_ret
      exact ⟨rfl, rfl⟩
    | true =>
      rw [q] at E
      generalize L.reg (L.bs s) = r at *
      clear q
      go_enter Tryd.func14, Tryd.ntmps14
      go_wp2_with (fail)
      refine (Na.isDigit_any x w).mono ?_; rintro e w2 ⟨rfl, rfl⟩
      rw [p]
      go_wp2_with (fail)
      refine E.out.mono ?_; rintro e w2 ⟨rfl, rfl⟩
      go_wp2_with (fail)
      refine C.out.mono ?_; rintro e w2 ⟨rfl, rfl⟩
      go_wp2
      go_ret
      exact ⟨rfl, rfl⟩
set_option maxRecDepth 100000 in
theorem Na.rlabel_any (s : ByteArray) (hs : s.size ≤ 900000) (w : World) : Calls Tryd.prog 15 #[.string s] w fun e w' => e = .returned (.bool (Na.label (L.bs s))) ∧ w = w' := by
  have hl := L.bs_len s
  have hs1 : (s.size : Int) ≤ 900000 := by omega
  have C := Lib.hid (L.rname_any s (by omega) w)
  by_cases c0 : s.size = 0
  · have c1 : ¬ (s.size : Int) > 0 := by omega
    have e : Na.label (L.bs s) = L.name (L.bs s) := by unfold Na.label; rw [if_neg (by omega)]
    rw [e]
    clear hl e
    go_enter Tryd.func15, Tryd.ntmps15
    go_wp2_with (fail)
    refine C.out.mono ?_; rintro e w2 ⟨rfl, rfl⟩
    go_wp2
    go_ret
    exact ⟨rfl, rfl⟩
  · have c1 : (s.size : Int) > 0 := by omega
    obtain ⟨x, hx⟩ : ∃ x, (L.bs s)[0]? = some x := ⟨_, List.getElem?_eq_getElem (by omega)⟩
    have hg : (L.bs s).getD 0 0 = x := by rw [List.getD_eq_getElem?_getD, hx]; rfl
    obtain ⟨hk, hxs⟩ := L.at_of hx
    by_cases c2 : x = 95
    · have e : Na.label (L.bs s) = L.name (97 :: (L.bs s).drop 1) := by unfold Na.label; rw [if_pos ⟨by omega, by rw [hg]; exact c2⟩]
      have e2 : L.bs (⟨#[97]⟩ ++ s.extract 1 s.size) = 97 :: (L.bs s).drop 1 := by
        rw [L.bs_append, Na.tail_eq, L.bs_str _ (fun x hx => L.bs_rng s x (List.mem_of_mem_drop hx))]; rfl
      have hz : (ByteArray.mk #[97] ++ s.extract 1 s.size).size ≤ 1000000 := by
        rw [← L.bs_len, e2, List.length_cons, List.length_drop, hl]; omega
      have D := Lib.hid (L.rname_any _ hz w)
      rw [e, ← e2]
      clear hl e e2 hz hx hg C
      subst c2
      go_enter Tryd.func15, Tryd.ntmps15
      go_wp2_with (fail)
      refine D.out.mono ?_; rintro e w2 ⟨rfl, rfl⟩
      go_wp2
      go_ret
      exact ⟨rfl, rfl⟩
    · have e : Na.label (L.bs s) = L.name (L.bs s) := by unfold Na.label; rw [if_neg (by rw [hg]; omega)]
      rw [e]
      have c3 : (x == 95) = false := by simpa using c2
      clear hl e hx hg
      go_enter Tryd.func15, Tryd.ntmps15
      go_wp2_with (fail)
      refine C.out.mono ?_; rintro e w2 ⟨rfl, rfl⟩
      go_wp2
      go_ret
      exact ⟨rfl, rfl⟩
end Go.Proofs.YtkkoihhkfophnaaDoor
