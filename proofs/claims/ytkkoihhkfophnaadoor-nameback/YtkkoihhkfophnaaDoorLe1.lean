/-
  The contracts of the small functions of package le and of the document's: letters, digits, registers, names.
-/
import Derived.Test.YtkkoihhkfophnaaDoorRows
import Derived.Test.YtkkoihhkfophnaaDoorLeP
import Derived.WalkKit
import Derived.WalkSpells
import Derived.WalkLawsBesides
import Derived.Lib.Hide
import Derived.Deep.Cut
import Derived.BigQuiet
import Derived.LoopTactic
namespace Go.Proofs.YtkkoihhkfophnaaDoor
open Go.RowKit
set_option linter.unusedVariables false
set_option linter.unusedSimpArgs false
set_option maxRecDepth 100000
theorem L.rletter_any (x : Int) (w : World) : Calls Tryd.prog 34 #[.int .u8 x] w fun e w' => e = .returned (.bool (L.letter x)) ∧ w = w' := by
  unfold L.letter
  by_cases c1 : 65 ≤ x <;> by_cases c2 : x ≤ 90 <;> by_cases c3 : 97 ≤ x <;> by_cases c4 : x ≤ 122
  all_goals
    simp only [c1, c2, c3, c4, decide_true, decide_false, Bool.and_true, Bool.and_false, Bool.true_and, Bool.false_and, Bool.or_true, Bool.or_false, Bool.true_or, Bool.false_or]
    go_enter Tryd.func34, Tryd.ntmps34
    go_wp2
    go_ret
    exact ⟨rfl, rfl⟩
theorem L.rdigit_any (x : Int) (w : World) : Calls Tryd.prog 36 #[.int .u8 x] w fun e w' => e = .returned (.bool (L.digit x)) ∧ w = w' := by
  unfold L.digit
  by_cases c1 : 48 ≤ x <;> by_cases c2 : x ≤ 57
  all_goals
    simp only [c1, c2, decide_true, decide_false, Bool.and_true, Bool.and_false, Bool.true_and, Bool.false_and]
    go_enter Tryd.func36, Tryd.ntmps36
    go_wp2
    go_ret
    exact ⟨rfl, rfl⟩
/-- the byte at k, as the walk spells it -/
theorem L.at_of {s : ByteArray} {k : Nat} {x : Int} (h : (L.bs s)[k]? = some x) : ∃ hk : k < s.size, ((s[k]'hk).toNat : Int) = x := by
  have hk : k < (L.bs s).length := by
    rcases Nat.lt_or_ge k (L.bs s).length with h1 | h1
    · exact h1
    · rw [List.getElem?_eq_none h1] at h; cases h
  have hk2 : k < s.size := by rw [← L.bs_len]; exact hk
  refine ⟨hk2, ?_⟩
  rw [L.bs_at s k hk2]
  rw [List.getElem?_eq_getElem hk] at h
  exact Option.some.inj h
theorem L.reg_no {xs : List Int} (h : xs.length < 2 ∨ 3 < xs.length ∨ xs.getD 0 0 ≠ 82) : L.reg xs = false := by
  unfold L.reg
  rcases h with h | h | h
  · rw [decide_eq_false (by omega)]; rfl
  · rw [decide_eq_false (by omega)]; rfl
  · rw [decide_eq_false h]; simp
theorem L.reg_yes {xs : List Int} (h1 : 2 ≤ xs.length) (h2 : xs.length ≤ 3) (h3 : xs.getD 0 0 = 82) : L.reg xs = (xs.drop 1).all L.digit := by
  unfold L.reg
  rw [decide_eq_true (by omega), decide_eq_true h3]; rfl
theorem all_step {p : Int → Bool} {xs : List Int} {k : Nat} {x : Int} (h : (xs.take k).all p = true) (hx : xs[k]? = some x) (hp : p x = true) : (xs.take (k + 1)).all p = true := by
  rw [List.take_add_one, hx, List.all_append, h]
  simp [hp]
theorem all_not {p : Int → Bool} {xs : List Int} {k : Nat} {x : Int} (hx : xs[k]? = some x) (hp : p x = false) : xs.all p = false := by
  rw [List.all_eq_false]
  exact ⟨x, List.mem_of_getElem? hx, by simp [hp]⟩
set_option maxRecDepth 100000 in
theorem L.rreg_any (s : ByteArray) (hs : s.size ≤ 1000000) (w : World) : Calls Tryd.prog 35 #[.string s] w fun e w' => e = .returned (.bool (L.reg (L.bs s))) ∧ w = w' := by
  have hl := L.bs_len s
  have hs1 : (s.size : Int) ≤ 1000000 := by omega
  by_cases c1 : s.size < 2
  · rw [L.reg_no (Or.inl (by omega))]
    have c2 : (s.size : Int) < 2 := by omega
    go_enter Tryd.func35, Tryd.ntmps35
    go_wp2
    go_ret
    exact ⟨rfl, rfl⟩
  have c3 : ¬ (s.size : Int) < 2 := by omega
  by_cases c2 : 3 < s.size
  · rw [L.reg_no (Or.inr (Or.inl (by omega)))]
    have c4 : (s.size : Int) > 3 := by omega
    go_enter Tryd.func35, Tryd.ntmps35
    go_wp2
    go_ret
    exact ⟨rfl, rfl⟩
  have c4 : ¬ (s.size : Int) > 3 := by omega
  obtain ⟨x, hx⟩ : ∃ x, (L.bs s)[0]? = some x := ⟨_, List.getElem?_eq_getElem (by omega)⟩
  have hg : (L.bs s).getD 0 0 = x := by rw [List.getD_eq_getElem?_getD, hx]; rfl
  obtain ⟨hk, hxs⟩ := L.at_of hx
  have hk0 : (0 : Int) < (s.size : Int) := by omega
  by_cases c5 : x = 82
  · subst c5
    rw [L.reg_yes (by omega) (by omega) hg]
    obtain ⟨y, hy⟩ : ∃ y, (L.bs s)[1]? = some y := ⟨_, List.getElem?_eq_getElem (by omega)⟩
    obtain ⟨hk1, hys⟩ := L.at_of hy
    have hk2 : (1 : Int) < (s.size : Int) := by omega
    cases p : L.digit y with
    | false =>
      rw [all_not (k := 0) (x := y) (p := L.digit) (by rw [List.getElem?_drop]; exact hy) p]
      clear hx hy hg hl
      go_enter Tryd.func35, Tryd.ntmps35
      go_wp2_with (fail)
      refine (L.rdigit_any y w).mono ?_; rintro e w2 ⟨rfl, rfl⟩
      rw [p]
      go_wp2
      go_ret
      exact ⟨rfl, rfl⟩
    | true =>
      by_cases c6 : s.size = 2
      · have r : ((L.bs s).drop 1).all L.digit = true := by
          have := all_step (p := L.digit) (xs := (L.bs s).drop 1) (k := 0) (x := y) rfl (by rw [List.getElem?_drop]; exact hy) p
          rwa [List.take_of_length_le (by simp; omega)] at this
        rw [r]
        clear hx hy hg hl r
        have c7 : (s.size : Int) = 2 := by omega
        go_enter Tryd.func35, Tryd.ntmps35
        go_wp2_with (fail)
        refine (L.rdigit_any y w).mono ?_; rintro e w2 ⟨rfl, rfl⟩
        rw [p]
        go_wp2
        go_ret
        exact ⟨rfl, rfl⟩
      · obtain ⟨z, hz⟩ : ∃ z, (L.bs s)[2]? = some z := ⟨_, List.getElem?_eq_getElem (by omega)⟩
        obtain ⟨hk3, hzs⟩ := L.at_of hz
        have hk4 : (2 : Int) < (s.size : Int) := by omega
        have c7 : ¬ (s.size : Int) = 2 := by omega
        have c8 : ((s.size : Int) == 2) = false := by simpa using c7
        have r : ((L.bs s).drop 1).all L.digit = L.digit z := by
          have h2 := all_step (p := L.digit) (xs := (L.bs s).drop 1) (k := 0) (x := y) rfl (by rw [List.getElem?_drop]; exact hy) p
          cases q : L.digit z with
          | true =>
            have := all_step (p := L.digit) (xs := (L.bs s).drop 1) (k := 1) (x := z) h2 (by rw [List.getElem?_drop]; exact hz) q
            rwa [List.take_of_length_le (by simp; omega)] at this
          | false => exact all_not (k := 1) (x := z) (p := L.digit) (by rw [List.getElem?_drop]; exact hz) q
        rw [r]
        clear hx hy hg hl r hz
        go_enter Tryd.func35, Tryd.ntmps35
        go_wp2_with (fail)
        refine (L.rdigit_any y w).mono ?_; rintro e w2 ⟨rfl, rfl⟩
        rw [p]
        go_wp2_with (fail)
        refine (L.rdigit_any z w).mono ?_; rintro e w2 ⟨rfl, rfl⟩
        go_wp2
        go_ret
        exact ⟨rfl, rfl⟩
  · rw [L.reg_no (Or.inr (Or.inr (by rw [hg]; exact c5)))]
    have c6 : (x != 82) = true := by simpa using c5
    have c7 : (x == 82) = false := by simpa using c5
    go_enter Tryd.func35, Tryd.ntmps35
    go_wp2
    go_ret
    exact ⟨rfl, rfl⟩
theorem L.name_no {xs : List Int} (h : xs.length < 1 ∨ 12 < xs.length ∨ L.letter (xs.getD 0 0) = false ∨ L.reg xs = true ∨ xs.all L.part = false) : L.name xs = false := by
  unfold L.name
  rcases h with h | h | h | h | h
  · rw [decide_eq_false (by omega)]; rfl
  · rw [decide_eq_false (by omega)]; rfl
  · rw [h]; simp
  · rw [h]; simp
  · rw [h]; simp
theorem L.name_yes {xs : List Int} (h1 : 1 ≤ xs.length) (h2 : xs.length ≤ 12) (h3 : L.letter (xs.getD 0 0) = true) (h4 : L.reg xs = false) : L.name xs = xs.all L.part := by
  unfold L.name
  rw [decide_eq_true (by omega), h3, h4]; rfl
theorem L.part_of {y : Int} (h : L.letter y = true ∨ L.digit y = true ∨ y = 95) : L.part y = true := by
  unfold L.part
  rcases h with h | h | h <;> simp [h]
theorem L.part_not {y : Int} (h1 : L.letter y = false) (h2 : L.digit y = false) (h3 : ¬ y = 95) : L.part y = false := by
  unfold L.part
  simp [h1, h2, h3]
set_option maxRecDepth 100000 in
theorem L.rname_any (s : ByteArray) (hs : s.size ≤ 1000000) (w : World) : Calls Tryd.prog 27 #[.string s] w fun e w' => e = .returned (.bool (L.name (L.bs s))) ∧ w = w' := by
  have hl := L.bs_len s
  have hs1 : (s.size : Int) ≤ 1000000 := by omega
  by_cases c1 : s.size < 1
  · rw [L.name_no (Or.inl (by omega))]
    have c2 : (s.size : Int) < 1 := by omega
    go_enter Tryd.func27, Tryd.ntmps27
    go_wp2
    go_ret
    exact ⟨rfl, rfl⟩
  have c2 : ¬ (s.size : Int) < 1 := by omega
  by_cases c3 : 12 < s.size
  · rw [L.name_no (Or.inr (Or.inl (by omega)))]
    have c4 : (s.size : Int) > 12 := by omega
    go_enter Tryd.func27, Tryd.ntmps27
    go_wp2
    go_ret
    exact ⟨rfl, rfl⟩
  have c4 : ¬ (s.size : Int) > 12 := by omega
  obtain ⟨x, hx⟩ : ∃ x, (L.bs s)[0]? = some x := ⟨_, List.getElem?_eq_getElem (by omega)⟩
  have hg : (L.bs s).getD 0 0 = x := by rw [List.getD_eq_getElem?_getD, hx]; rfl
  obtain ⟨hk, hxs⟩ := L.at_of hx
  have hk0 : (0 : Int) < (s.size : Int) := by omega
  cases p0 : L.letter x with
  | false =>
    rw [L.name_no (Or.inr (Or.inr (Or.inl (by rw [hg]; exact p0))))]
    clear hx hg
    go_enter Tryd.func27, Tryd.ntmps27
    go_wp2_with (fail)
    refine (L.rletter_any x w).mono ?_; rintro e w2 ⟨rfl, rfl⟩
    rw [p0]
    go_wp2
    go_ret
    exact ⟨rfl, rfl⟩
  | true =>
    have C := Lib.hid (L.rreg_any s hs w)
    cases p1 : L.reg (L.bs s) with
    | true =>
      rw [L.name_no (Or.inr (Or.inr (Or.inr (Or.inl p1))))]
      rw [p1] at C
      clear hx hg
      go_enter Tryd.func27, Tryd.ntmps27
      go_wp2_with (fail)
      refine (L.rletter_any x w).mono ?_; rintro e w2 ⟨rfl, rfl⟩
      rw [p0]
      go_wp2_with (fail)
      refine C.out.mono ?_; rintro e w2 ⟨rfl, rfl⟩
      go_wp2
      go_ret
      exact ⟨rfl, rfl⟩
    | false =>
      rw [L.name_yes (by omega) (by omega) (by rw [hg]; exact p0) p1]
      rw [p1] at C
      clear p1 hg hx
      have hat := Lib.hid (fun (k : Nat) (y : Int) (hy : (L.bs s)[k]? = some y) => L.at_of hy)
      generalize L.bs s = xs at *
      go_enter Tryd.func27, Tryd.ntmps27
      go_wp2_with (fail)
      refine (L.rletter_any x w).mono ?_; rintro e w2 ⟨rfl, rfl⟩
      rw [p0]
      go_wp2_with (fail)
      refine C.out.mono ?_; rintro e w2 ⟨rfl, rfl⟩
      clear C
      obtain ⟨n, hn⟩ : ∃ n, s.size = n := ⟨_, rfl⟩
      have hn2 : (s.size : Int) = n := by rw [hn]
      go_wp2
      go_loopw [3] (fun i wr => ∃ k : Nat, k ≤ n ∧ i = .int .i64 k ∧ (xs.take k).all L.part = true ∧ w = wr) (fun i _ => n - (intOf i).toNat)
      case atStart => exact ⟨0, Nat.zero_le _, rfl, rfl, rfl⟩
      case round =>
        obtain ⟨k, hk, rfl, ht, rfl⟩ := hrel
        by_cases d1 : k < n
        · have d2 : (k : Int) < n := by omega
          obtain ⟨y, hy⟩ : ∃ y, xs[k]? = some y := ⟨_, List.getElem?_eq_getElem (by omega)⟩
          obtain ⟨hy1, hy2⟩ := hat.out k y hy
          have hy3 : (k : Int) < (s.size : Int) := by omega
          have hy4 : (0 : Int) ≤ (k : Int) := by omega
          cases p2 : L.letter y with
          | true =>
            have R := Lib.hid (all_step ht hy (L.part_of (Or.inl p2)))
            clear ht hy hat
            go_wp2_with (fail)
            refine (L.rletter_any y w).mono ?_; rintro e w2 ⟨rfl, rfl⟩
            rw [p2]
            go_wp2
            go_roundw
            case rel => exact ⟨k + 1, by omega, by go_num, R.out, by trivial⟩
            case measure => simp [intOf]; omega
          | false =>
            cases p3 : L.digit y with
            | true =>
              have R := Lib.hid (all_step ht hy (L.part_of (Or.inr (Or.inl p3))))
              clear ht hy hat
              go_wp2_with (fail)
              refine (L.rletter_any y w).mono ?_; rintro e w2 ⟨rfl, rfl⟩
              rw [p2]
              go_wp2_with (fail)
              refine (L.rdigit_any y w).mono ?_; rintro e w2 ⟨rfl, rfl⟩
              rw [p3]
              go_wp2
              go_roundw
              case rel => exact ⟨k + 1, by omega, by go_num, R.out, by trivial⟩
              case measure => simp [intOf]; omega
            | false =>
              by_cases p4 : y = 95
              · have R := Lib.hid (all_step ht hy (L.part_of (Or.inr (Or.inr p4))))
                subst p4
                clear ht hy hat
                go_wp2_with (fail)
                refine (L.rletter_any 95 w).mono ?_; rintro e w2 ⟨rfl, rfl⟩
                rw [p2]
                go_wp2_with (fail)
                refine (L.rdigit_any 95 w).mono ?_; rintro e w2 ⟨rfl, rfl⟩
                rw [p3]
                go_wp2
                go_roundw
                case rel => exact ⟨k + 1, by omega, by go_num, R.out, by trivial⟩
                case measure => simp [intOf]; omega
              · have R := Lib.hid (all_not (p := L.part) hy (L.part_not p2 p3 p4))
                have c6 : (y != 95) = true := by simpa using p4
                have c7 : (y == 95) = false := by simpa using p4
                clear ht hy hat
                go_wp2_with (fail)
                refine (L.rletter_any y w).mono ?_; rintro e w2 ⟨rfl, rfl⟩
                rw [p2]
                go_wp2_with (fail)
                refine (L.rdigit_any y w).mono ?_; rintro e w2 ⟨rfl, rfl⟩
                rw [p3]
                go_wp2
                go_ret
                exact ⟨congrArg (fun b => Ending.returned (Value.bool b)) R.out.symm, rfl⟩
        · have d2 : ¬ (k : Int) < n := by omega
          rw [List.take_of_length_le (by omega)] at ht
          have R := Lib.hid ht
          clear ht
          go_wp2
          go_ret
          exact ⟨congrArg (fun b => Ending.returned (Value.bool b)) R.out.symm, rfl⟩
end Go.Proofs.YtkkoihhkfophnaaDoor
