/-
  The contracts of package scan's small functions, and of the document's: bytes, what they are, words.
-/
import Derived.Test.YtpbgniffjlcbhaaDoorLe1
import Derived.Test.YtpbgniffjlcbhaaDoorScQ
import Derived.Test.YtpbgniffjlcbhaaDoorSc0
import Derived.Lib.Strings
import Derived.Lib.Bytealg
namespace Go.Proofs.YtpbgniffjlcbhaaDoor
open Go.RowKit
set_option linter.unusedVariables false
set_option linter.unusedSimpArgs false
set_option maxRecDepth 100000
theorem Sc.part_eq (x : Int) : L.part x = (Sc.letter x || L.digit x) := by
  unfold L.part Sc.letter
  cases L.letter x <;> cases L.digit x <;> simp
theorem Sc.retB {a b : Bool} (h : a = b) : Ending.returned (Value.bool a) = .returned (.bool b) := by rw [h]
theorem Sc.retI {k : IntKind} {a b : Int} (h : a = b) : Ending.returned (Value.int k a) = .returned (.int k b) := by rw [h]
theorem Sc.word_in : ∀ (ys : List Int) (j : Nat), j < (Sc.word ys).length → L.part (ys.getD j 59) = true
  | [], j, h => by simp [Sc.word] at h
  | c :: r, j, h => by
    unfold Sc.word at h
    rw [List.takeWhile_cons] at h
    split at h
    · rename_i hc
      cases j with
      | zero => simpa using hc
      | succ j =>
        have := Sc.word_in r j (by simpa [Sc.word] using h)
        simpa using this
    · simp at h
theorem Sc.word_at : ∀ (ys : List Int), L.part (ys.getD (Sc.word ys).length 59) = false
  | [] => by decide
  | c :: r => by
    unfold Sc.word
    rw [List.takeWhile_cons]
    split
    · rename_i hc
      have := Sc.word_at r
      unfold Sc.word at this
      simpa using this
    · rename_i hc
      simpa using hc
theorem Sc.getD_drop (xs : List Int) (k j : Nat) (d : Int) : (xs.drop k).getD j d = xs.getD (k + j) d := by
  rw [List.getD_eq_getElem?_getD, List.getD_eq_getElem?_getD, List.getElem?_drop]
set_option maxRecDepth 100000 in
theorem Sc.byteAt_any (s : ByteArray) (hs : s.size ≤ 1000000000) (k : Nat) (hk : k ≤ 1000000000) (y : Int) (hy : (L.bs s).getD k 59 = y) (w : World) : Calls Tryd.prog 17 #[.string s, .int .i64 k] w fun e w' => e = .returned (.int .u8 y) ∧ w = w' := by
  subst hy
  have hl := L.bs_len s
  have hs1 : (s.size : Int) ≤ 1000000000 := by omega
  have hk0 : (0 : Int) ≤ (k : Int) := by omega
  by_cases c : k < s.size
  · have c1 : (k : Int) < (s.size : Int) := by omega
    have c2 : ¬ (k : Int) ≥ (s.size : Int) := by omega
    obtain ⟨x, hx⟩ : ∃ x, (L.bs s)[k]? = some x := ⟨_, List.getElem?_eq_getElem (by omega)⟩
    obtain ⟨hk2, hxs⟩ := L.at_of hx
    have hg : (L.bs s).getD k 59 = x := by rw [List.getD_eq_getElem?_getD, hx]; rfl
    rw [hg]
    clear hg hx hl
    go_enter Tryd.func17, Tryd.ntmps17
    go_wp2
    go_ret
    exact ⟨rfl, rfl⟩
  · have c2 : (k : Int) ≥ (s.size : Int) := by omega
    have hg : (L.bs s).getD k 59 = 59 := by rw [List.getD_eq_getElem?_getD, List.getElem?_eq_none (by omega)]; rfl
    rw [hg]
    clear hg hl
    go_enter Tryd.func17, Tryd.ntmps17
    go_wp2
    go_ret
    exact ⟨rfl, rfl⟩
theorem Sc.isBlank_any (x : Int) (w : World) : Calls Tryd.prog 18 #[.int .u8 x] w fun e w' => e = .returned (.bool (Sc.blank x)) ∧ w = w' := by
  unfold Sc.blank
  by_cases c1 : x = 32
  · subst c1
    go_enter Tryd.func18, Tryd.ntmps18
    go_wp2
    go_ret
    exact ⟨rfl, rfl⟩
  · have d1 : (x == 32) = false := by simpa using c1
    by_cases c2 : x = 9
    · subst c2
      go_enter Tryd.func18, Tryd.ntmps18
      go_wp2
      go_ret
      exact ⟨rfl, rfl⟩
    · have d2 : (x == 9) = false := by simpa using c2
      rw [decide_eq_false c1, decide_eq_false c2]
      go_enter Tryd.func18, Tryd.ntmps18
      go_wp2
      go_ret
      exact ⟨rfl, rfl⟩
theorem Sc.isNameFirst_any (x : Int) (w : World) : Calls Tryd.prog 19 #[.int .u8 x] w fun e w' => e = .returned (.bool (Sc.letter x)) ∧ w = w' := by
  unfold Sc.letter L.letter
  by_cases c5 : x = 95
  · subst c5
    go_enter Tryd.func19, Tryd.ntmps19
    go_wp2
    go_ret
    exact ⟨rfl, rfl⟩
  · have d5 : (x == 95) = false := by simpa using c5
    by_cases c1 : 65 ≤ x <;> by_cases c2 : x ≤ 90 <;> by_cases c3 : 97 ≤ x <;> by_cases c4 : x ≤ 122
    all_goals
      simp only [c1, c2, c3, c4, c5, decide_true, decide_false, Bool.and_true, Bool.and_false, Bool.true_and, Bool.false_and, Bool.or_true, Bool.or_false, Bool.true_or, Bool.false_or]
      go_enter Tryd.func19, Tryd.ntmps19
      go_wp2
      go_ret
      exact ⟨rfl, rfl⟩
theorem Sc.isDigit_any (x : Int) (w : World) : Calls Tryd.prog 20 #[.int .u8 x] w fun e w' => e = .returned (.bool (L.digit x)) ∧ w = w' := by
  unfold L.digit
  by_cases c1 : 48 ≤ x <;> by_cases c2 : x ≤ 57
  all_goals
    simp only [c1, c2, decide_true, decide_false, Bool.and_true, Bool.and_false, Bool.true_and, Bool.false_and]
    go_enter Tryd.func20, Tryd.ntmps20
    go_wp2
    go_ret
    exact ⟨rfl, rfl⟩
theorem Sc.isOfWord_any (x : Int) (w : World) : Calls Tryd.prog 35 #[.int .u8 x] w fun e w' => e = .returned (.bool (L.part x)) ∧ w = w' := by
  rw [Sc.part_eq]
  cases p : Sc.letter x with
  | true =>
    go_enter Tryd.func35, Tryd.ntmps35
    go_wp2_with (fail)
    refine (Sc.isNameFirst_any x w).mono ?_; rintro e w2 ⟨rfl, rfl⟩
    rw [p]
    go_wp2
    go_ret
    exact ⟨rfl, rfl⟩
  | false =>
    cases q : L.digit x with
    | true =>
      go_enter Tryd.func35, Tryd.ntmps35
      go_wp2_with (fail)
      refine (Sc.isNameFirst_any x w).mono ?_; rintro e w2 ⟨rfl, rfl⟩
      rw [p]
      go_wp2_with (fail)
      refine (Sc.isDigit_any x w).mono ?_; rintro e w2 ⟨rfl, rfl⟩
      rw [q]
      go_wp2
      go_ret
      exact ⟨rfl, rfl⟩
    | false =>
      go_enter Tryd.func35, Tryd.ntmps35
      go_wp2_with (fail)
      refine (Sc.isNameFirst_any x w).mono ?_; rintro e w2 ⟨rfl, rfl⟩
      rw [p]
      go_wp2_with (fail)
      refine (Sc.isDigit_any x w).mono ?_; rintro e w2 ⟨rfl, rfl⟩
      rw [q]
      go_wp2
      go_ret
      exact ⟨rfl, rfl⟩
theorem Sc.mem_index (c : UInt8) : ∀ l : List UInt8, decide (Lib.indexByte l c ≥ 0) = decide (c ∈ l)
  | [] => by rfl
  | b :: l => by
    have ih := Sc.mem_index c l
    unfold Lib.indexByte
    by_cases h : b = c
    · subst h
      simp
    · have h2 : (b == c) = false := by simpa using h
      have h3 : ¬ c = b := fun e => h e.symm
      rw [h2]
      by_cases q : Lib.indexByte l c = -1
      · rw [q] at ih ⊢
        have : decide ((-1 : Int) ≥ 0) = false := rfl
        rw [this] at ih
        simp [h3]
        simpa using ih.symm
      · have q2 : (Lib.indexByte l c == -1) = false := by simpa using q
        have q3 : Lib.indexByte l c ≥ -1 := by
          clear ih h2 h3 h q q2
          induction l with
          | nil => show (-1 : Int) ≥ -1; omega
          | cons a l ih =>
            unfold Lib.indexByte
            split
            · omega
            · split
              · omega
              · omega
        rw [q2]
        simp only [List.mem_cons, h3, false_or]
        rw [← ih]
        simp only [Bool.false_eq_true, if_false]
        rw [decide_eq_decide]
        omega
set_option maxRecDepth 100000 in
theorem Sc.indexByte_any (s : ByteArray) (c : UInt8) (w : World) :
    Calls Tryd.prog 41 #[.string s, .int .u8 c.toNat] w fun e w' => e = .returned (.int .i64 (Lib.indexByte s.data.toList c)) ∧ w = w' := by
  have hc : ((c.toNat : Int)).toNat.toUInt8 = c := by simp
  go_enter Tryd.func41, Tryd.ntmps41
  go_wp2
  rw [run_callFunc_extern Tryd.func46 (by kernel_rfl) (by kernel_rfl) (by kernel_rfl) (e := Extern.BytealgIndexByte.indexByte) (by kernel_rfl)]
  rw [Lib.run_indexByteString, hc]
  simp only [Result.andThen]
  rw [Oper.upon_value]
  go_wp2
  go_ret
  exact ⟨rfl, rfl⟩
set_option maxRecDepth 100000 in
theorem Sc.sIndexByte_any (s : ByteArray) (c : UInt8) (w : World) :
    Calls Tryd.prog 34 #[.string s, .int .u8 c.toNat] w fun e w' => e = .returned (.int .i64 (Lib.indexByte s.data.toList c)) ∧ w = w' := by
  go_enter Tryd.func34, Tryd.ntmps34
  go_wp2_with (fail)
  refine (Sc.indexByte_any s c w).mono ?_; rintro e w2 ⟨rfl, rfl⟩
  go_wp2
  go_ret
  exact ⟨rfl, rfl⟩
theorem Sc.sign_mem0 : ∀ n : Fin 256, decide (UInt8.ofNat n.val ∈ ([44, 58, 43, 45, 42, 40, 41, 61] : List UInt8)) = Sc.sign (n.val : Int) := by decide
theorem Sc.sign_mem (c : UInt8) : decide (c ∈ ([44, 58, 43, 45, 42, 40, 41, 61] : List UInt8)) = Sc.sign (c.toNat : Int) := by
  have h := Sc.sign_mem0 ⟨c.toNat, c.toNat_lt⟩
  simpa using h
set_option maxRecDepth 100000 in
theorem Sc.isSign_any (x : Int) (h0 : 0 ≤ x) (h1 : x < 256) (w : World) : Calls Tryd.prog 21 #[.int .u8 x] w fun e w' => e = .returned (.bool (Sc.sign x)) ∧ w = w' := by
  obtain ⟨c, rfl⟩ : ∃ c : UInt8, (c.toNat : Int) = x := ⟨UInt8.ofNat x.toNat, by rw [UInt8.toNat_ofNat_of_lt' (by show x.toNat < 256; omega)]; omega⟩
  have H := Sc.sign_mem c
  rw [← Sc.mem_index] at H
  rw [← H]
  have C := Lib.hid (Sc.sIndexByte_any ⟨#[44, 58, 43, 45, 42, 40, 41, 61]⟩ c w)
  have e : (ByteArray.mk #[44, 58, 43, 45, 42, 40, 41, 61]).data.toList = [44, 58, 43, 45, 42, 40, 41, 61] := rfl
  rw [e] at C
  generalize Lib.indexByte [44, 58, 43, 45, 42, 40, 41, 61] c = q at *
  clear H e
  by_cases p : q ≥ 0
  · have p2 : (0 : Int) ≤ q := p
    go_enter Tryd.func21, Tryd.ntmps21
    go_wp2_with (fail)
    refine C.out.mono ?_; rintro e w2 ⟨rfl, rfl⟩
    go_wp2
    go_ret
    exact ⟨Sc.retB (by simp [p2]), rfl⟩
  · have p2 : ¬ (0 : Int) ≤ q := p
    go_enter Tryd.func21, Tryd.ntmps21
    go_wp2_with (fail)
    refine C.out.mono ?_; rintro e w2 ⟨rfl, rfl⟩
    go_wp2
    go_ret
    exact ⟨Sc.retB (by simp [p2]), rfl⟩
set_option maxRecDepth 100000 in
theorem Sc.behind_any (s : ByteArray) (hs : s.size ≤ 100000000) (k : Nat) (hk : k ≤ s.size) (w : World) : Calls Tryd.prog 22 #[.string s, .int .i64 k] w fun e w' => e = .returned (.int .i64 ((k + (Sc.word ((L.bs s).drop k)).length : Nat) : Int)) ∧ w = w' := by
  have C := Lib.hid (fun j (hj : j ≤ 1000000000) y (hy : (L.bs s).getD j 59 = y) v => Sc.byteAt_any s (by omega) j hj y hy v)
  have hin := Lib.hid (fun j h => Sc.word_in ((L.bs s).drop k) j h)
  have hat := Lib.hid (Sc.word_at ((L.bs s).drop k))
  have hle := Sc.word_le ((L.bs s).drop k)
  rw [List.length_drop, L.bs_len] at hle
  obtain ⟨n, hn⟩ : ∃ n, n = (Sc.word ((L.bs s).drop k)).length := ⟨_, rfl⟩
  rw [← hn] at hin hat hle ⊢
  simp only [Sc.getD_drop] at hin hat
  clear hn
  have hn1 : (n : Int) ≤ 100000000 := by omega
  have hk1 : (k : Int) ≤ 100000000 := by omega
  go_enter Tryd.func22, Tryd.ntmps22
  go_wp2
  go_loopw [1] (fun i wr => ∃ j : Nat, j ≤ n ∧ i = .int .i64 ((k + j : Nat) : Int) ∧ w = wr) (fun i _ => k + n - (intOf i).toNat)
  case atStart => exact ⟨0, Nat.zero_le _, rfl, rfl⟩
  case round =>
    obtain ⟨j, hj, rfl, rfl⟩ := hrel
    have hj1 : ((k + j : Nat) : Int) ≤ 200000000 := by omega
    have hj0 : (0 : Int) ≤ ((k + j : Nat) : Int) := by omega
    by_cases d1 : j < n
    · have p := hin.out j d1
      obtain ⟨y, hy⟩ : ∃ y, (L.bs s).getD (k + j) 59 = y := ⟨_, rfl⟩
      rw [hy] at p
      have C1 := Lib.hid (C.out (k + j) (by omega) y hy)
      clear hin hat C hy
      go_wp2_with (fail)
      refine (C1.out w).mono ?_; rintro e w2 ⟨rfl, rfl⟩
      go_wp2_with (fail)
      refine (Sc.isOfWord_any _ w).mono ?_; rintro e w2 ⟨rfl, rfl⟩
      rw [p]
      go_wp2
      go_roundw
      case rel => exact ⟨j + 1, by omega, by go_num, by trivial⟩
      case measure => simp [intOf]; omega
    · have d2 : j = n := by omega
      subst d2
      have p := hat.out
      obtain ⟨y, hy⟩ : ∃ y, (L.bs s).getD (k + j) 59 = y := ⟨_, rfl⟩
      rw [hy] at p
      have C1 := Lib.hid (C.out (k + j) (by omega) y hy)
      clear hin hat C hy
      go_wp2_with (fail)
      refine (C1.out w).mono ?_; rintro e w2 ⟨rfl, rfl⟩
      go_wp2_with (fail)
      refine (Sc.isOfWord_any _ w).mono ?_; rintro e w2 ⟨rfl, rfl⟩
      rw [p]
      go_wp2
      go_ret
      exact ⟨rfl, rfl⟩
end Go.Proofs.YtpbgniffjlcbhaaDoor
