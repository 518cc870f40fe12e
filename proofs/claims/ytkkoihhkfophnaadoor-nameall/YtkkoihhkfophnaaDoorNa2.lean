/-
  The contracts of package name's small functions: letters, digits, isEach, isLikeRegister, Label; the document's Label.
-/
import Derived.Test.YtkkoihhkfophnaaDoorLe5
import Derived.Test.YtkkoihhkfophnaaDoorNaP
import Derived.Lib.Strings
namespace Go.Proofs.YtkkoihhkfophnaaDoor
open Go.RowKit
set_option linter.unusedVariables false
set_option linter.unusedSimpArgs false
set_option maxRecDepth 100000
theorem Na.bs_extract (s : ByteArray) (a b : Nat) : L.bs (s.extract a b) = ((L.bs s).drop a).take (b - a) := by
  unfold L.bs
  rw [Lib.extract_data, List.map_take, List.map_drop]
theorem Na.bs_inj {a b : ByteArray} (h : L.bs a = L.bs b) : a = b := by rw [← L.str_bs a, ← L.str_bs b, h]
theorem Na.retB {a b : Bool} (h : a = b) : Ending.returned (Value.bool a) = .returned (.bool b) := by rw [h]
theorem Na.isLetter_any (x : Int) (w : World) : Calls Tryd.prog 32 #[.int .u8 x] w fun e w' => e = .returned (.bool (L.letter x)) ∧ w = w' := by
  unfold L.letter
  by_cases c1 : 65 ≤ x <;> by_cases c2 : x ≤ 90 <;> by_cases c3 : 97 ≤ x <;> by_cases c4 : x ≤ 122
  all_goals
    simp only [c1, c2, c3, c4, decide_true, decide_false, Bool.and_true, Bool.and_false, Bool.true_and, Bool.false_and, Bool.or_true, Bool.or_false, Bool.true_or, Bool.false_or]
    go_enter Tryd.func32, Tryd.ntmps32
    go_wp2
    go_ret
    exact ⟨rfl, rfl⟩
theorem Na.isDigit_any (x : Int) (w : World) : Calls Tryd.prog 23 #[.int .u8 x] w fun e w' => e = .returned (.bool (L.digit x)) ∧ w = w' := by
  unfold L.digit
  by_cases c1 : 48 ≤ x <;> by_cases c2 : x ≤ 57
  all_goals
    simp only [c1, c2, decide_true, decide_false, Bool.and_true, Bool.and_false, Bool.true_and, Bool.false_and]
    go_enter Tryd.func23, Tryd.ntmps23
    go_wp2
    go_ret
    exact ⟨rfl, rfl⟩
theorem Na.isOfLabel_any (x : Int) (w : World) : Calls Tryd.prog 25 #[.int .u8 x] w fun e w' => e = .returned (.bool (L.part x)) ∧ w = w' := by
  cases p2 : L.letter x with
  | true =>
    rw [L.part_of (Or.inl p2)]
    go_enter Tryd.func25, Tryd.ntmps25
    go_wp2_with (fail)
    refine (Na.isLetter_any x w).mono ?_; rintro e w2 ⟨rfl, rfl⟩
    rw [p2]
    go_wp2
    go_ret
    exact ⟨rfl, rfl⟩
  | false =>
    cases p3 : L.digit x with
    | true =>
      rw [L.part_of (Or.inr (Or.inl p3))]
      go_enter Tryd.func25, Tryd.ntmps25
      go_wp2_with (fail)
      refine (Na.isLetter_any x w).mono ?_; rintro e w2 ⟨rfl, rfl⟩
      rw [p2]
      go_wp2_with (fail)
      refine (Na.isDigit_any x w).mono ?_; rintro e w2 ⟨rfl, rfl⟩
      rw [p3]
      go_wp2
      go_ret
      exact ⟨rfl, rfl⟩
    | false =>
      by_cases p4 : x = 95
      · rw [L.part_of (Or.inr (Or.inr p4))]
        have c6 : (x == 95) = true := by simpa using p4
        subst p4
        go_enter Tryd.func25, Tryd.ntmps25
        go_wp2_with (fail)
        refine (Na.isLetter_any 95 w).mono ?_; rintro e w2 ⟨rfl, rfl⟩
        rw [p2]
        go_wp2_with (fail)
        refine (Na.isDigit_any 95 w).mono ?_; rintro e w2 ⟨rfl, rfl⟩
        rw [p3]
        go_wp2
        go_ret
        exact ⟨rfl, rfl⟩
      · rw [L.part_not p2 p3 p4]
        have c6 : (x != 95) = true := by simpa using p4
        have c7 : (x == 95) = false := by simpa using p4
        go_enter Tryd.func25, Tryd.ntmps25
        go_wp2_with (fail)
        refine (Na.isLetter_any x w).mono ?_; rintro e w2 ⟨rfl, rfl⟩
        rw [p2]
        go_wp2_with (fail)
        refine (Na.isDigit_any x w).mono ?_; rintro e w2 ⟨rfl, rfl⟩
        rw [p3]
        go_wp2
        go_ret
        exact ⟨rfl, rfl⟩
set_option maxRecDepth 100000 in
theorem Na.eachP_any (s : ByteArray) (hs : s.size ≤ 1000000) (w : World) : Calls Tryd.prog 24 #[.string s, .func (.func 25) #[] #[]] w fun e w' => e = .returned (.bool ((L.bs s).all L.part)) ∧ w = w' := by
  have hl := L.bs_len s
  have hs1 : (s.size : Int) ≤ 1000000 := by omega
  have hat := Lib.hid (fun (k : Nat) (y : Int) (hy : (L.bs s)[k]? = some y) => L.at_of hy)
  generalize L.bs s = xs at *
  obtain ⟨n, hn⟩ : ∃ n, s.size = n := ⟨_, rfl⟩
  have hn2 : (s.size : Int) = n := by rw [hn]
  go_enter Tryd.func24, Tryd.ntmps24
  go_wp2
  go_loopw [5, 8] (fun _ i wr => ∃ k : Nat, k ≤ n ∧ i = .int .i64 k ∧ (xs.take k).all L.part = true ∧ w = wr) (fun _ i _ => n - (intOf i).toNat)
  case atStart => exact ⟨0, Nat.zero_le _, rfl, rfl, rfl⟩
  case round =>
    obtain ⟨k, hk, rfl, ht, rfl⟩ := hrel
    by_cases d1 : k < n
    · have d2 : (k : Int) < n := by omega
      obtain ⟨y, hy⟩ : ∃ y, xs[k]? = some y := ⟨_, List.getElem?_eq_getElem (by omega)⟩
      obtain ⟨hy1, hy2⟩ := hat.out k y hy
      have hy3 : (k : Int) < (s.size : Int) := by omega
      have hy4 : (0 : Int) ≤ (k : Int) := by omega
      cases p : L.part y with
      | true =>
        have R := Lib.hid (all_step ht hy p)
        clear ht hy hat
        go_wp2_with (fail)
        refine (Na.isOfLabel_any y w).mono ?_; rintro e w2 ⟨rfl, rfl⟩
        rw [p]
        go_wp2
        go_roundw
        case rel => exact ⟨k + 1, by omega, by go_num, R.out, by trivial⟩
        case measure => simp [intOf]; omega
      | false =>
        have R := Lib.hid (all_not hy p)
        clear ht hy hat
        go_wp2_with (fail)
        refine (Na.isOfLabel_any y w).mono ?_; rintro e w2 ⟨rfl, rfl⟩
        rw [p]
        go_wp2
        go_ret
        exact ⟨Na.retB R.out.symm, rfl⟩
    · have d2 : ¬ (k : Int) < n := by omega
      rw [List.take_of_length_le (by omega)] at ht
      have R := Lib.hid ht
      clear ht
      go_wp2
      go_ret
      exact ⟨Na.retB R.out.symm, rfl⟩
set_option maxRecDepth 100000 in
theorem Na.eachD_any (s : ByteArray) (hs : s.size ≤ 1000000) (w : World) : Calls Tryd.prog 24 #[.string s, .func (.func 23) #[] #[]] w fun e w' => e = .returned (.bool ((L.bs s).all L.digit)) ∧ w = w' := by
  have hl := L.bs_len s
  have hs1 : (s.size : Int) ≤ 1000000 := by omega
  have hat := Lib.hid (fun (k : Nat) (y : Int) (hy : (L.bs s)[k]? = some y) => L.at_of hy)
  generalize L.bs s = xs at *
  obtain ⟨n, hn⟩ : ∃ n, s.size = n := ⟨_, rfl⟩
  have hn2 : (s.size : Int) = n := by rw [hn]
  go_enter Tryd.func24, Tryd.ntmps24
  go_wp2
  go_loopw [5, 8] (fun _ i wr => ∃ k : Nat, k ≤ n ∧ i = .int .i64 k ∧ (xs.take k).all L.digit = true ∧ w = wr) (fun _ i _ => n - (intOf i).toNat)
  case atStart => exact ⟨0, Nat.zero_le _, rfl, rfl, rfl⟩
  case round =>
    obtain ⟨k, hk, rfl, ht, rfl⟩ := hrel
    by_cases d1 : k < n
    · have d2 : (k : Int) < n := by omega
      obtain ⟨y, hy⟩ : ∃ y, xs[k]? = some y := ⟨_, List.getElem?_eq_getElem (by omega)⟩
      obtain ⟨hy1, hy2⟩ := hat.out k y hy
      have hy3 : (k : Int) < (s.size : Int) := by omega
      have hy4 : (0 : Int) ≤ (k : Int) := by omega
      cases p : L.digit y with
      | true =>
        have R := Lib.hid (all_step ht hy p)
        clear ht hy hat
        go_wp2_with (fail)
        refine (Na.isDigit_any y w).mono ?_; rintro e w2 ⟨rfl, rfl⟩
        rw [p]
        go_wp2
        go_roundw
        case rel => exact ⟨k + 1, by omega, by go_num, R.out, by trivial⟩
        case measure => simp [intOf]; omega
      | false =>
        have R := Lib.hid (all_not hy p)
        clear ht hy hat
        go_wp2_with (fail)
        refine (Na.isDigit_any y w).mono ?_; rintro e w2 ⟨rfl, rfl⟩
        rw [p]
        go_wp2
        go_ret
        exact ⟨Na.retB R.out.symm, rfl⟩
    · have d2 : ¬ (k : Int) < n := by omega
      rw [List.take_of_length_le (by omega)] at ht
      have R := Lib.hid ht
      clear ht
      go_wp2
      go_ret
      exact ⟨Na.retB R.out.symm, rfl⟩
theorem Na.list_at {s : ByteArray} (l : List UInt8) : (s.toList == l) = decide (L.bs s = l.map fun b => (b.toNat : Int)) := by
  rw [ByteArray.toList_eq]
  by_cases c : s.data.toList = l
  · rw [c, decide_eq_true (by rw [← c]; rfl)]
    simp
  · rw [decide_eq_false, beq_eq_false_iff_ne.2 c]
    intro q
    refine c ?_
    have h : L.bs s = L.bs ⟨l.toArray⟩ := by rw [q]; rfl
    have := Na.bs_inj h
    rw [this]
theorem Na.list_eq (s t : ByteArray) : (s.toList == t.toList) = decide (L.bs s = L.bs t) := by
  rw [Na.list_at, ByteArray.toList_eq]; rfl
end Go.Proofs.YtkkoihhkfophnaaDoor
