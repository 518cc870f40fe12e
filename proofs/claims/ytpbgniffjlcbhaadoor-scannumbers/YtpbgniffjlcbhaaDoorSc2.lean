/-
  The contracts of the document's functions of bytes and words.
-/
import Derived.Test.YtpbgniffjlcbhaaDoorSc1
import Derived.Deep.CutRange
namespace Go.Proofs.YtpbgniffjlcbhaaDoor
open Go.RowKit
set_option linter.unusedVariables false
set_option linter.unusedSimpArgs false
set_option maxRecDepth 100000
theorem Sc.rletter_any (x : Int) (w : World) : Calls Tryd.prog 25 #[.int .u8 x] w fun e w' => e = .returned (.bool (Sc.letter x)) ∧ w = w' := by
  unfold Sc.letter L.letter
  by_cases c5 : x = 95
  · subst c5
    go_enter Tryd.func25, Tryd.ntmps25
    go_wp2
    go_ret
    exact ⟨rfl, rfl⟩
  · have d5 : (x == 95) = false := by simpa using c5
    by_cases c1 : 65 ≤ x <;> by_cases c2 : x ≤ 90 <;> by_cases c3 : 97 ≤ x <;> by_cases c4 : x ≤ 122
    all_goals
      simp only [c1, c2, c3, c4, c5, decide_true, decide_false, Bool.and_true, Bool.and_false, Bool.true_and, Bool.false_and, Bool.or_true, Bool.or_false, Bool.true_or, Bool.false_or]
      go_enter Tryd.func25, Tryd.ntmps25
      go_wp2
      go_ret
      exact ⟨rfl, rfl⟩
theorem Sc.rdigit_any (x : Int) (w : World) : Calls Tryd.prog 27 #[.int .u8 x] w fun e w' => e = .returned (.bool (L.digit x)) ∧ w = w' := by
  unfold L.digit
  by_cases c1 : 48 ≤ x <;> by_cases c2 : x ≤ 57
  all_goals
    simp only [c1, c2, decide_true, decide_false, Bool.and_true, Bool.and_false, Bool.true_and, Bool.false_and]
    go_enter Tryd.func27, Tryd.ntmps27
    go_wp2
    go_ret
    exact ⟨rfl, rfl⟩
/-- what sixteen tells -/
def Sc.sixV (x : Int) : Value := match Sc.six x with
  | some d => .tuple #[.int .i64 d, .bool true]
  | Option.none => .tuple #[.int .i64 0, .bool false]
theorem Sc.six_lt {x d : Int} (h : Sc.six x = some d) : 0 ≤ d ∧ d < 16 := by
  unfold Sc.six at h
  split at h
  · cases h; omega
  · split at h
    · cases h; omega
    · split at h
      · cases h; omega
      · cases h
theorem Sc.sixteen_any (x : Int) (h0 : 0 ≤ x) (h1 : x < 256) (w : World) : Calls Tryd.prog 39 #[.int .u8 x] w fun e w' => e = .returned (Sc.sixV x) ∧ w = w' := by
  unfold Sc.sixV Sc.six
  by_cases c1 : 48 ≤ x ∧ x ≤ 57
  · have p : L.digit x = true := by unfold L.digit; simp; omega
    obtain ⟨c3, c4⟩ := c1
    rw [if_pos ⟨c3, c4⟩]
    go_enter Tryd.func39, Tryd.ntmps39
    go_wp2_with (fail)
    refine (Sc.rdigit_any x w).mono ?_; rintro e w2 ⟨rfl, rfl⟩
    rw [p]
    go_wp2
    go_ret2
    exact ⟨rfl, rfl⟩
  · have p : L.digit x = false := by unfold L.digit; simp; omega
    rw [if_neg c1]
    clear c1
    by_cases c1 : 65 ≤ x <;> by_cases c2 : x ≤ 70 <;> by_cases c3 : 97 ≤ x <;> by_cases c4 : x ≤ 102
    all_goals
      simp only [c1, c2, c3, c4, and_true, and_false, true_and, false_and, if_true, if_false]
      go_enter Tryd.func39, Tryd.ntmps39
      go_wp2_with (fail)
      refine (Sc.rdigit_any x w).mono ?_; rintro e w2 ⟨rfl, rfl⟩
      rw [p]
      go_wp2
      all_goals go_ret2
      all_goals first
        | exact ⟨rfl, rfl⟩
        | exact ⟨by rw [show x - 65 + 10 = x - 55 by omega]; rfl, rfl⟩
        | exact ⟨by rw [show x - 97 + 10 = x - 87 by omega]; rfl, rfl⟩
theorem Sc.word_stop : ∀ (ys : List Int), (Sc.word ys).length < ys.length → L.part (ys.getD (Sc.word ys).length 59) = false := fun ys _ => Sc.word_at ys
set_option maxRecDepth 100000 in
theorem Sc.rword_any (s : ByteArray) (hs : s.size ≤ 100000000) (n : Nat) (hn : n = (Sc.word (L.bs s)).length) (w : World) : Calls Tryd.prog 26 #[.string s] w fun e w' => e = .returned (.int .i64 n) ∧ w = w' := by
  have hl := L.bs_len s
  have hin := Lib.hid (fun j h => Sc.word_in (L.bs s) j h)
  have hat := Lib.hid (Sc.word_at (L.bs s))
  have hle := Sc.word_le (L.bs s)
  rw [← hn] at hin hat hle
  rw [hl] at hle
  clear hn
  have hs1 : (s.size : Int) ≤ 100000000 := by omega
  go_enter Tryd.func26, Tryd.ntmps26
  go_wp2
  go_loopw [3] (fun i wr => ∃ j : Nat, j ≤ n ∧ i = .int .i64 (j : Int) ∧ w = wr) (fun i _ => n - (intOf i).toNat)
  case atStart => exact ⟨0, Nat.zero_le _, rfl, rfl⟩
  case round =>
    obtain ⟨j, hj, rfl, rfl⟩ := hrel
    have hj0 : (0 : Int) ≤ (j : Int) := by omega
    by_cases c : j < s.size
    · have c1 : (j : Int) < (s.size : Int) := by omega
      obtain ⟨y, hy⟩ : ∃ y, (L.bs s)[j]? = some y := ⟨_, List.getElem?_eq_getElem (by omega)⟩
      obtain ⟨hk2, hxs⟩ := L.at_of hy
      have hg : (L.bs s).getD j 59 = y := by rw [List.getD_eq_getElem?_getD, hy]; rfl
      have hp : L.part y = decide (j < n) := by
        by_cases d : j < n
        · have := hin.out j d
          rw [hg] at this
          rw [this, decide_eq_true d]
        · have e : j = n := by omega
          have := hat.out
          rw [← e, hg] at this
          rw [this, decide_eq_false d]
      rw [Sc.part_eq] at hp
      clear hin hat hy hg
      cases p : Sc.letter y with
      | true =>
        rw [p, Bool.true_or] at hp
        have d := of_decide_eq_true hp.symm
        clear hp
        go_wp2_with (fail)
        refine (Sc.rletter_any y w).mono ?_; rintro e w2 ⟨rfl, rfl⟩
        rw [p]
        go_wp2
        go_roundw
        case rel => exact ⟨j + 1, by omega, by go_num, by trivial⟩
        case measure => simp [intOf]; omega
      | false =>
        rw [p, Bool.false_or] at hp
        cases q : L.digit y with
        | true =>
          rw [q] at hp
          have d := of_decide_eq_true hp.symm
          clear hp
          go_wp2_with (fail)
          refine (Sc.rletter_any y w).mono ?_; rintro e w2 ⟨rfl, rfl⟩
          rw [p]
          go_wp2_with (fail)
          refine (Sc.rdigit_any y w).mono ?_; rintro e w2 ⟨rfl, rfl⟩
          rw [q]
          go_wp2
          go_roundw
          case rel => exact ⟨j + 1, by omega, by go_num, by trivial⟩
          case measure => simp [intOf]; omega
        | false =>
          rw [q] at hp
          have d := of_decide_eq_false hp.symm
          have e : j = n := by omega
          subst e
          clear hp
          go_wp2_with (fail)
          refine (Sc.rletter_any y w).mono ?_; rintro e w2 ⟨rfl, rfl⟩
          rw [p]
          go_wp2_with (fail)
          refine (Sc.rdigit_any y w).mono ?_; rintro e w2 ⟨rfl, rfl⟩
          rw [q]
          go_wp2
          go_ret
          exact ⟨rfl, rfl⟩
    · have e : j = n := by omega
      subst e
      have c1 : (s.size : Int) ≤ (j : Int) := by omega
      clear hin hat
      go_wp2
      go_ret
      exact ⟨rfl, rfl⟩
theorem Sc.byt (s : ByteArray) : L.Byt (L.bs s) := fun x hx => by
  unfold L.bs at hx
  obtain ⟨b, _, rfl⟩ := List.mem_map.1 hx
  have := b.toNat_lt
  constructor <;> omega
set_option maxRecDepth 100000 in
theorem Sc.rsign_any (x : Int) (w : World) : Calls Tryd.prog 29 #[.int .u8 x] w fun e w' => e = .returned (.bool (Sc.sign x)) ∧ w = w' := by
  obtain ⟨S, hS⟩ : ∃ S, S = (⟨#[44, 58, 43, 45, 42, 40, 41, 61]⟩ : ByteArray) := ⟨_, rfl⟩
  have hz : S.size = 8 := by rw [hS]; rfl
  have hz2 : (S.size : Int) = 8 := by rw [hz]; rfl
  have hb : L.bs S = Sc.signs := by rw [hS]; rfl
  have hlit := Lib.hid hS
  clear hS
  go_enter Tryd.func29, Tryd.ntmps29
  go_wp2
  rw [← hlit.out]
  clear hlit
  go_loopw [4] (fun i wr => ∃ j : Nat, j ≤ 8 ∧ i = .int .i64 (j : Int) ∧ Hid (Sc.sign x = (Sc.signs.drop j).contains x) ∧ w = wr) (fun i _ => 8 - (intOf i).toNat)
  case atStart => exact ⟨0, Nat.zero_le _, rfl, Lib.hid rfl, rfl⟩
  case round =>
    obtain ⟨j, hj, rfl, hc, rfl⟩ := hrel
    have hj0 : (0 : Int) ≤ (j : Int) := by omega
    by_cases c : j < 8
    · have c1 : (j : Int) < (S.size : Int) := by omega
      have hl : Sc.signs.length = 8 := rfl
      obtain ⟨y, hy⟩ : ∃ y, Sc.signs[j]? = some y := ⟨_, List.getElem?_eq_getElem (by omega)⟩
      have hd : Sc.signs.drop j = y :: Sc.signs.drop (j + 1) := by
        rw [List.drop_eq_getElem_cons (by omega)]
        congr 1
        rw [List.getElem?_eq_getElem (by omega)] at hy
        exact Option.some.inj hy
      rw [← hb] at hy
      obtain ⟨hk2, hxs⟩ := L.at_of hy
      have hc2 := hc.out
      rw [hd] at hc2
      clear hc hy hd hb hl
      by_cases d : y = x
      · have e : Sc.sign x = true := by rw [hc2, d]; simp
        subst d
        clear hc2
        replace e := Lib.hid e
        go_wp2
        go_ret
        exact ⟨Sc.retB e.out.symm, rfl⟩
      · have d2 : (y == x) = false := by simpa using d
        have hc3 : Sc.sign x = (Sc.signs.drop (j + 1)).contains x := by
          rw [hc2, List.contains_cons]
          have : (x == y) = false := by simpa using fun e : x = y => d e.symm
          rw [this, Bool.false_or]
        clear hc2
        replace hc3 := Lib.hid hc3
        go_wp2
        go_roundw
        case rel => exact ⟨j + 1, by omega, by go_num, hc3, by trivial⟩
        case measure => simp [intOf]; omega
    · have e : j = 8 := by omega
      subst e
      have hc2 : Sc.sign x = false := hc.out
      clear hc hb
      replace hc2 := Lib.hid hc2
      go_wp2
      go_ret
      exact ⟨Sc.retB hc2.out.symm, rfl⟩
/-- what number tells -/
def Sc.numV : Option Int → Value
  | some n => .tuple #[.int .u32 n, .bool true]
  | Option.none => .tuple #[.int .u32 0, .bool false]
theorem Sc.num_cons (b c : Int) (r : List Int) (n : Int) : Sc.num b (c :: r) n = match Sc.step b n c with | some m => Sc.num b r m | Option.none => Option.none := rfl
theorem Sc.retV {a b : Value} (h : a = b) : Ending.returned a = .returned b := by rw [h]
set_option maxHeartbeats 2000000 in
set_option maxRecDepth 100000 in
theorem Sc.rnumber_any (s : ByteArray) (hs : s.size ≤ 100000000) (w : World) : Calls Tryd.prog 28 #[.string s] w fun e w' => e = .returned (Sc.numV (Sc.number (L.bs s))) ∧ w = w' := by
  have hl := L.bs_len s
  have hbyt := Lib.hid (Sc.byt s)
  obtain ⟨R, hR⟩ : ∃ R, R = Sc.number (L.bs s) := ⟨_, rfl⟩
  rw [← hR]
  have hs1 : (s.size : Int) ≤ 100000000 := by omega
  go_enter Tryd.func28, Tryd.ntmps28
  go_upto_region 3 with (fail)
  obtain ⟨q, hq⟩ : ∃ q, q = Sc.hexed (L.bs s) := ⟨_, rfl⟩
  go_cut [22] from 10 to 21 (fun v wx => v = .bool q ∧ w = wx)
  case first =>
    unfold Sc.hexed at hq
    rw [hl] at hq
    clear hR
    by_cases c0 : s.size > 2
    · obtain ⟨y0, hy0⟩ : ∃ y, (L.bs s)[0]? = some y := ⟨_, List.getElem?_eq_getElem (by omega)⟩
      obtain ⟨y1, hy1⟩ : ∃ y, (L.bs s)[1]? = some y := ⟨_, List.getElem?_eq_getElem (by omega)⟩
      obtain ⟨hk0, hx0⟩ := L.at_of hy0
      obtain ⟨hk1, hx1⟩ := L.at_of hy1
      have g0 : (L.bs s).getD 0 0 = y0 := by rw [List.getD_eq_getElem?_getD, hy0]; rfl
      have g1 : (L.bs s).getD 1 0 = y1 := by rw [List.getD_eq_getElem?_getD, hy1]; rfl
      rw [decide_eq_true c0, g0, g1, Bool.true_and] at hq
      clear g0 g1 hy0 hy1
      have c1 : (2 : Int) < (s.size : Int) := by omega
      by_cases d0 : y0 = 48
      · by_cases d1 : y1 = 120
        · rw [decide_eq_true d0, decide_eq_true d1, Bool.true_and] at hq
          subst d0 d1 hq
          go_wp2
          go_meet
          case rel => exact ⟨rfl, rfl⟩
        · rw [decide_eq_true d0, decide_eq_false d1, Bool.true_and] at hq
          subst d0 hq
          have d2 : (y1 == 120) = false := by simpa using d1
          go_wp2
          go_meet
          case rel => exact ⟨rfl, rfl⟩
      · rw [decide_eq_false d0, Bool.false_and] at hq
        have d2 : (y0 == 48) = false := by simpa using d0
        subst hq
        go_wp2
        go_meet
        case rel => exact ⟨rfl, rfl⟩
    · have c1 : ¬ (2 : Int) < (s.size : Int) := by omega
      rw [decide_eq_false c0, Bool.false_and, Bool.false_and] at hq
      subst hq
      go_wp2
      go_meet
      case rel => exact ⟨rfl, rfl⟩
  case rest =>
  obtain ⟨rfl, rfl⟩ := hcut
  rename_i hB
  refine hB _ _ ?_
  clear hB
  go_cut [4, 5] from 22 to 22 (fun vb vf wx => ∃ (b : Int) (f : Nat), vb = .int .i64 b ∧ vf = .int .i64 f ∧ (b = 10 ∨ b = 16) ∧ f ≤ s.size ∧ Hid (R = Sc.num b ((L.bs s).drop f) 0) ∧ w = wx)
  case first =>
    unfold Sc.number at hR
    rw [← hq] at hR
    cases c : q with
    | true =>
      rw [c, if_pos rfl] at hR
      have c0 : 2 < s.size := by
        rw [c] at hq
        unfold Sc.hexed at hq
        rw [hl] at hq
        simp at hq
        omega
      replace hR := Lib.hid hR
      go_wp2
      go_meet
      case rel => exact ⟨16, 2, rfl, rfl, Or.inr rfl, by omega, hR, rfl⟩
    | false =>
      rw [c, if_neg (by decide)] at hR
      replace hR := Lib.hid hR
      go_wp2
      go_meet
      case rel => exact ⟨10, 0, rfl, rfl, Or.inl rfl, by omega, hR, rfl⟩
  case rest =>
    obtain ⟨b, f, rfl, rfl, hb, hf, hN, rfl⟩ := hcut
    clear hR
    go_wp2
    go_loopw [6, 7] (fun vm vi wr => ∃ (m : Int) (k : Nat), vm = .int .i64 m ∧ vi = .int .i64 (k : Int) ∧ 0 ≤ m ∧ m < 4294967296 ∧ k ≤ s.size ∧ Hid (R = Sc.num b ((L.bs s).drop k) m) ∧ w = wr) (fun _ i _ => s.size - (intOf i).toNat)
    case atStart => exact ⟨0, f, rfl, rfl, by omega, by omega, hf, hN, rfl⟩
    case round =>
      obtain ⟨m, k, rfl, rfl, h0, h1, hk, hN2, rfl⟩ := hrel
      clear hN hf
      have hk0 : (0 : Int) ≤ (k : Int) := by omega
      by_cases c : k < s.size
      · have c1 : (k : Int) < (s.size : Int) := by omega
        obtain ⟨y, hy⟩ : ∃ y, (L.bs s)[k]? = some y := ⟨_, List.getElem?_eq_getElem (by omega)⟩
        have hd : (L.bs s).drop k = y :: (L.bs s).drop (k + 1) := by
          rw [List.drop_eq_getElem_cons (by omega)]
          congr 1
          rw [List.getElem?_eq_getElem (by omega)] at hy
          exact Option.some.inj hy
        obtain ⟨y0, y1⟩ := hbyt.out y (List.mem_of_getElem? hy)
        obtain ⟨hk2, hxs⟩ := L.at_of hy
        have hN3 := hN2.out
        rw [hd, Sc.num_cons] at hN3
        clear hN2 hy hd hbyt
        have C := Lib.hid (Sc.sixteen_any y y0 y1 w)
        unfold Sc.step at hN3
        unfold Sc.sixV at C
        cases h6 : Sc.six y with
        | none =>
          rw [h6] at hN3 C
          have hN4 : R = Option.none := hN3
          subst hN4
          clear hN3
          go_wp2_with (fail)
          refine C.out.mono ?_; rintro e w2 ⟨rfl, rfl⟩
          go_wp2
          go_ret2
          exact ⟨rfl, rfl⟩
        | some d =>
          rw [h6] at hN3 C
          obtain ⟨d0, d1⟩ := Sc.six_lt h6
          clear h6
          simp only [] at hN3 C
          by_cases c2 : d < b
          · rw [if_pos c2] at hN3
            by_cases c3 : m * b + d < 4294967296
            · rw [if_pos c3] at hN3
              simp only [] at hN3
              have c4 : 0 ≤ m * b + d := by rcases hb with rfl | rfl <;> omega
              have c5 : 0 ≤ m * b := by rcases hb with rfl | rfl <;> omega
              have c6 : m * b < 4294967296 := by omega
              replace hN3 := Lib.hid hN3
              replace C := Lib.hid C
              have c7 : ¬ d ≥ b := by omega
              generalize hmb : m * b = z at *
              go_wp2_with (fail)
              refine C.out.out.mono ?_; rintro e w2 ⟨rfl, rfl⟩
              go_wp2
              go_roundw
              case rel => exact ⟨z + d, k + 1, rfl, by go_num, c4, c3, by omega, hN3, by trivial⟩
              case measure => simp [intOf]; omega
            · rw [if_neg c3] at hN3
              have hN4 : R = Option.none := hN3
              subst hN4
              clear hN3
              have c4 : 4294967296 ≤ m * b + d := by omega
              have c5 : m * b + d < 100000000000 := by rcases hb with rfl | rfl <;> omega
              have c6 : m * b < 100000000000 := by rcases hb with rfl | rfl <;> omega
              have c6 : 0 ≤ m * b := by rcases hb with rfl | rfl <;> omega
              generalize hmb : m * b = z at *
              go_wp2_with (fail)
              refine C.out.mono ?_; rintro e w2 ⟨rfl, rfl⟩
              go_wp2
              go_ret2
              exact ⟨rfl, rfl⟩
          · rw [if_neg c2] at hN3
            have hN4 : R = Option.none := hN3
            subst hN4
            clear hN3
            have c3 : b ≤ d := by omega
            go_wp2_with (fail)
            refine C.out.mono ?_; rintro e w2 ⟨rfl, rfl⟩
            go_wp2
            go_ret2
            exact ⟨rfl, rfl⟩
      · have e : k = s.size := by omega
        subst e
        have hN3 := hN2.out
        rw [List.drop_eq_nil_of_le (by omega)] at hN3
        have hN4 : R = some m := hN3
        subst hN4
        clear hN3 hN2
        go_wp2
        go_ret2
        exact ⟨rfl, rfl⟩
end Go.Proofs.YtpbgniffjlcbhaaDoor
