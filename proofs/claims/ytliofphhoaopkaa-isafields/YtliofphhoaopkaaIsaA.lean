/-
  The document's examples; Encode and Decode by the letters of what they answer.
-/
import Derived.Test.YtliofphhoaopkaaIsa9
namespace Go.Proofs.Ytliofphhoaopkaa
open Go.RowKit
set_option linter.unusedVariables false
set_option linter.unusedSimpArgs false
/-- Encode of an instruction that may be -/
theorem enc_to (k op a b c i r : Int) (u : Bool) (h : I.May ⟨k, op, a, b, c, i, u⟩) (hr : I.word ⟨k, op, a, b, c, i, u⟩ = r) (w : World) :
    Calls Try.prog 12 #[.agg #[.int .i64 k, .int .i64 op, .int .i64 a, .int .i64 b, .int .i64 c, .int .i64 i, .bool u]] w fun e w' => e = .returned (.tuple #[.int .u32 r, .int .i64 0]) ∧ Kept w w' := by
  have e1 : I.may ⟨k, op, a, b, c, i, u⟩ = true := decide_eq_true h
  have C := enc_any k op a b c i u w
  simp only [I.enc, I.err, e1, reduceIte, hr] at C
  exact C
/-- Encode of one that may not -/
theorem enc_not (k op a b c i : Int) (u : Bool) (h : ¬ I.May ⟨k, op, a, b, c, i, u⟩) (w : World) :
    Calls Try.prog 12 #[.agg #[.int .i64 k, .int .i64 op, .int .i64 a, .int .i64 b, .int .i64 c, .int .i64 i, .bool u]] w fun e w' => e = .returned (.tuple #[.int .u32 0, .int .i64 1]) ∧ Kept w w' := by
  have e1 : I.may ⟨k, op, a, b, c, i, u⟩ = false := decide_eq_false h
  have C := enc_any k op a b c i u w
  simp only [I.enc, I.err, e1, Bool.false_eq_true, reduceIte] at C
  exact C
theorem may_to (k op a b c i : Int) (u r : Bool) (h : I.may ⟨k, op, a, b, c, i, u⟩ = r) (w : World) :
    Calls Try.prog 16 #[.agg #[.int .i64 k, .int .i64 op, .int .i64 a, .int .i64 b, .int .i64 c, .int .i64 i, .bool u]] w fun e w' => e = .returned (.bool r) ∧ Kept w w' := h ▸ may_any k op a b c i u w
/-- Decode of a word that is an instruction's -/
theorem dec_to (x k op a b c i : Int) (u : Bool) (hx : U32 x) (h : I.is x = true) (hr : I.guess x = ⟨k, op, a, b, c, i, u⟩) (w : World) :
    Calls Try.prog 14 #[.int .u32 x] w fun e w' => e = .returned (.tuple #[.agg #[.int .i64 k, .int .i64 op, .int .i64 a, .int .i64 b, .int .i64 c, .int .i64 i, .bool u], .bool true]) ∧ Kept w w' := by
  have C := dec_any x hx w
  rw [show I.dec x = ⟨k, op, a, b, c, i, u⟩ by rw [← hr]; simp [I.dec, h], h] at C
  exact C
theorem dec_not (x : Int) (hx : U32 x) (h : I.is x = false) (w : World) :
    Calls Try.prog 14 #[.int .u32 x] w fun e w' => e = .returned (.tuple #[.agg #[.int .i64 0, .int .i64 0, .int .i64 0, .int .i64 0, .int .i64 0, .int .i64 0, .bool false], .bool false]) ∧ Kept w w' := by
  have C := dec_any x hx w
  rw [show I.dec x = ⟨0, 0, 0, 0, 0, 0, false⟩ by simp [I.dec, h], h] at C
  exact C
theorem I.may1 : I.May ⟨2, 8, 1, 2, 0, -1, false⟩ := by unfold I.May; simp
theorem I.may2 : I.May ⟨7, 7, 0, 0, 0, -1, false⟩ := by unfold I.May; simp
theorem I.word1 : I.word ⟨2, 8, 1, 2, 0, -1, false⟩ = 1361641471 := by simp [I.word, I.bit]
theorem I.word2 : I.word ⟨7, 7, 0, 0, 0, -1, false⟩ = 3892314111 := by simp [I.word, I.bit]
theorem shown_any (w : World) : Calls Try.prog 11 #[] w fun e w' => e = .returned (.bool true) ∧ Kept w w' := by
  have C1 := Lib.hid (enc_to 2 8 1 2 0 (-1) 1361641471 false I.may1 I.word1)
  have C2 := Lib.hid (dec_to 3892314111 7 7 0 0 0 (-1) false ⟨by omega, by omega⟩ (I.word2 ▸ I.is_word _ I.may2) (I.word2 ▸ I.guess_word _ I.may2))
  go_enter Try.func11, Try.ntmps11
  go_wp2_with fail
  refine (C1.out _).mono ?_; rintro e w1 ⟨rfl, hK1⟩
  go_wp2_with fail
  refine (C2.out _).mono ?_; rintro e w2 ⟨rfl, hK2⟩
  go_wp2_with fail
  go_ret
  exact ⟨rfl, (hK1.trans hK2).alloc _ _⟩
theorem yesB {w w' : World} {b : Bool} (h : b = true) (hk : Kept w w') : Ending.returned (.bool b) = .returned (.bool true) ∧ Below w.heap.size w w' := ⟨by rw [h], hk.below⟩
set_option maxHeartbeats 1000000 in
theorem walk_Words_no (x : Int) (hx : U32 x) (h : I.is x = false) (w : World) : Calls Try.prog 5 #[.int .u32 x] w fun e w' => e = .returned (.bool true) ∧ Below w.heap.size w w' := by
  have C1 := Lib.hid (dec_not x hx h)
  go_enter Try.func5, Try.ntmps5
  go_wp2_with fail
  refine (shown_any _).mono ?_; rintro e w1 ⟨rfl, hK1⟩
  go_wp2_with fail
  refine (C1.out _).mono ?_; rintro e w2 ⟨rfl, hK2⟩
  go_wp2_with fail
  go_ret
  exact yesB rfl ((hK1.trans hK2).alloc _ _)
set_option maxHeartbeats 1000000 in
theorem walk_Words_yes (x k op a b c i : Int) (u : Bool) (hx : U32 x) (h : I.is x = true) (hr : I.guess x = ⟨k, op, a, b, c, i, u⟩) (w : World) : Calls Try.prog 5 #[.int .u32 x] w fun e w' => e = .returned (.bool true) ∧ Below w.heap.size w w' := by
  have hm : I.May ⟨k, op, a, b, c, i, u⟩ ∧ I.word ⟨k, op, a, b, c, i, u⟩ = x := by
    have h' := h
    unfold I.is at h'
    rw [hr] at h'
    simpa [I.may] using h'
  have C1 := Lib.hid (dec_to x k op a b c i u hx h hr)
  have C2 := Lib.hid (enc_to k op a b c i x u hm.1 hm.2)
  have C3 := Lib.hid (may_to k op a b c i u true (decide_eq_true hm.1))
  clear hm hr h
  go_enter Try.func5, Try.ntmps5
  go_wp2_with fail
  refine (shown_any _).mono ?_; rintro e w1 ⟨rfl, hK1⟩
  go_wp2_with fail
  refine (C1.out _).mono ?_; rintro e w2 ⟨rfl, hK2⟩
  go_wp2_with fail
  refine (C2.out _).mono ?_; rintro e w3 ⟨rfl, hK3⟩
  have HX := Lib.hid (Box.new k op a b c i u w2)
  obtain ⟨i0, i1, i2, i3, i4, i5, i6⟩ := (HX.out.kept hK3).cells
  have HK := Lib.hid (((hK1.trans hK2).alloc #[.int .i64 k, .int .i64 op, .int .i64 a, .int .i64 b, .int .i64 c, .int .i64 i, .bool u] 23).trans hK3)
  clear hK1 hK2 hK3
  go_wp2_with fail
  refine (C3.out _).mono ?_; rintro e w4 ⟨rfl, hK4⟩
  clear i0 i1 i2 i3 i4 i5 i6
  go_wp2_with fail
  go_ret
  exact yesB (by simp) (HK.out.trans hK4)
theorem walk_Words (x : Int) (hx : U32 x) (w : World) : Calls Try.prog 5 #[.int .u32 x] w fun e w' => e = .returned (.bool true) ∧ Below w.heap.size w w' := by
  by_cases h : I.is x = true
  · exact walk_Words_yes x _ _ _ _ _ _ _ hx h rfl w
  · exact walk_Words_no x hx (by simpa using h) w
end Go.Proofs.Ytliofphhoaopkaa
