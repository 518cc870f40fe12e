/-
  The walk of MemoryPlaces.
-/
import Derived.Test.YtkefggnocmmeoaaMem5
namespace Go.Proofs.Ytkefggnocmmeoaa
open Go.RowKit
set_option linter.unusedVariables false
set_option linter.unusedSimpArgs false
set_option maxRecDepth 100000 in
theorem walk_places_a (w : World) (A A' : Option Addr) (n c n' c' : Nat) (xs xs' : List Int) (hX0 : Hid (Ws w A n c xs)) (hY0 : Hid (Ws w A' n' c' xs')) (m m' : Nat) (hm : Hid (min n 12 = m)) (hm' : Hid (min n' 12 = m')) (ws ys : List Int) (hX : Hid (Ws w A m c ws)) (hY : Hid (Ws w A' m' c' ys)) (hm12 : m ≤ 12) (hm12' : m' ≤ 12) (a : Int) (a0 : -9223372036854775808 ≤ a) (a1 : a ≤ 9223372036854775807) (c1 : a < 0) :
    Calls Try.prog 6 #[.slice A n c, .slice A' n' c', .int .i64 a] w fun e w' => e = .returned (.bool true) ∧ Below w.heap.size w w' := by
  have hl := hX.out.len
  skip
  go_enter Try.func6, Try.ntmps6
  go_wp2_with (fail)
  refine (shown_any w).mono ?_; rintro e w1 ⟨rfl, hK⟩
  replace hK := Lib.hid hK
  go_wp2_with (fail)
  refine (few_any w1 _ n c xs (hX0.out.kept hK.out)).mono ?_; rintro e w' ⟨rfl, rfl⟩
  rw [hm.out]
  clear hm hX0
  go_wp2_with (fail)
  refine (few_any w1 _ n' c' xs' (hY0.out.kept hK.out)).mono ?_; rintro e w' ⟨rfl, rfl⟩
  rw [hm'.out]
  clear hm' hY0
  go_wp2_with (fail)
  refine (M.new_yes m (by omega) w1).mono ?_; rintro e w2 ⟨rfl, hM, hK2, hs⟩
  have hB : w.heap.size ≤ w1.heap.size := hK.out.size
  replace hK := Lib.hid (hK.out.trans hK2)
  replace hM := Lib.hid hM
  generalize w1.heap.size = B at *
  clear hK2 hs
  go_wp2_with (fail)
  refine (M.place_zero hM.out _ _ _ _ (hX.out.kept hK.out) (by simp)).mono ?_; rintro e w3 ⟨rfl, hM3, hB3⟩
  replace hM := Lib.hid hM3
  replace hK := Lib.hid (hK.out.thenBut hB3 hB)
  clear hM3 hB3
  go_wp2_with (fail)
  refine (M.place_no hM.out a A' m' c' (by unfold maxLen; omega) a0 a1 (by omega)).mono ?_; rintro e w4 ⟨rfl, rfl⟩
  go_wp2_with (fail)
  refine (M.words_any hM.out).mono ?_; rintro e w8 ⟨g, rfl, hg, hW8, hK8⟩
  rw [hl] at hW8
  rw [hl]
  replace hK := Lib.hid (hK.out.trans hK8)
  replace hW8 := Lib.hid hW8
  clear hK8
  go_wp2_with (fail)
  refine (same_any hW8.out (hX.out.kept hK.out)).mono ?_; rintro e w9 ⟨rfl, hK9⟩
  rw [decide_eq_true rfl]
  replace hK := Lib.hid (hK.out.trans hK9)
  clear hK9 hW8
  go_wp2
  go_ret
  exact ⟨rfl, hK.out.below⟩
set_option maxRecDepth 100000 in
theorem walk_places_b (w : World) (A A' : Option Addr) (n c n' c' : Nat) (xs xs' : List Int) (hX0 : Hid (Ws w A n c xs)) (hY0 : Hid (Ws w A' n' c' xs')) (m m' : Nat) (hm : Hid (min n 12 = m)) (hm' : Hid (min n' 12 = m')) (ws ys : List Int) (hX : Hid (Ws w A m c ws)) (hY : Hid (Ws w A' m' c' ys)) (hm12 : m ≤ 12) (hm12' : m' ≤ 12) (a : Int) (a0 : -9223372036854775808 ≤ a) (a1 : a ≤ 9223372036854775807) (c1 : ¬ a < 0) (c2 : (m : Int) < a) :
    Calls Try.prog 6 #[.slice A n c, .slice A' n' c', .int .i64 a] w fun e w' => e = .returned (.bool true) ∧ Below w.heap.size w w' := by
  have hl := hX.out.len
  have c3 : ¬ a ≤ (m : Int) := by omega
  have c4 : 0 ≤ a := by omega
  go_enter Try.func6, Try.ntmps6
  go_wp2_with (fail)
  refine (shown_any w).mono ?_; rintro e w1 ⟨rfl, hK⟩
  replace hK := Lib.hid hK
  go_wp2_with (fail)
  refine (few_any w1 _ n c xs (hX0.out.kept hK.out)).mono ?_; rintro e w' ⟨rfl, rfl⟩
  rw [hm.out]
  clear hm hX0
  go_wp2_with (fail)
  refine (few_any w1 _ n' c' xs' (hY0.out.kept hK.out)).mono ?_; rintro e w' ⟨rfl, rfl⟩
  rw [hm'.out]
  clear hm' hY0
  go_wp2_with (fail)
  refine (M.new_yes m (by omega) w1).mono ?_; rintro e w2 ⟨rfl, hM, hK2, hs⟩
  have hB : w.heap.size ≤ w1.heap.size := hK.out.size
  replace hK := Lib.hid (hK.out.trans hK2)
  replace hM := Lib.hid hM
  generalize w1.heap.size = B at *
  clear hK2 hs
  go_wp2_with (fail)
  refine (M.place_zero hM.out _ _ _ _ (hX.out.kept hK.out) (by simp)).mono ?_; rintro e w3 ⟨rfl, hM3, hB3⟩
  replace hM := Lib.hid hM3
  replace hK := Lib.hid (hK.out.thenBut hB3 hB)
  clear hM3 hB3
  go_wp2_with (fail)
  refine (M.place_no hM.out a A' m' c' (by unfold maxLen; omega) a0 a1 (by omega)).mono ?_; rintro e w4 ⟨rfl, rfl⟩
  go_wp2_with (fail)
  refine (M.words_any hM.out).mono ?_; rintro e w8 ⟨g, rfl, hg, hW8, hK8⟩
  rw [hl] at hW8
  rw [hl]
  replace hK := Lib.hid (hK.out.trans hK8)
  replace hW8 := Lib.hid hW8
  clear hK8
  go_wp2_with (fail)
  refine (same_any hW8.out (hX.out.kept hK.out)).mono ?_; rintro e w9 ⟨rfl, hK9⟩
  rw [decide_eq_true rfl]
  replace hK := Lib.hid (hK.out.trans hK9)
  clear hK9 hW8
  go_wp2
  go_ret
  exact ⟨rfl, hK.out.below⟩
set_option maxRecDepth 100000 in
theorem walk_places_c (w : World) (A A' : Option Addr) (n c n' c' : Nat) (xs xs' : List Int) (hX0 : Hid (Ws w A n c xs)) (hY0 : Hid (Ws w A' n' c' xs')) (m m' : Nat) (hm : Hid (min n 12 = m)) (hm' : Hid (min n' 12 = m')) (ws ys : List Int) (hX : Hid (Ws w A m c ws)) (hY : Hid (Ws w A' m' c' ys)) (hm12 : m ≤ 12) (hm12' : m' ≤ 12) (a : Int) (a0 : -9223372036854775808 ≤ a) (a1 : a ≤ 9223372036854775807) (c1 : ¬ a < 0) (c2 : a ≤ (m : Int)) (c3 : (m : Int) - a < m') :
    Calls Try.prog 6 #[.slice A n c, .slice A' n' c', .int .i64 a] w fun e w' => e = .returned (.bool true) ∧ Below w.heap.size w w' := by
  have hl := hX.out.len
  have c4 : 0 ≤ a := by omega
  have c5 : decide ((m' : Int) ≤ m - a) = false := decide_eq_false (by omega)
  go_enter Try.func6, Try.ntmps6
  go_wp2_with (fail)
  refine (shown_any w).mono ?_; rintro e w1 ⟨rfl, hK⟩
  replace hK := Lib.hid hK
  go_wp2_with (fail)
  refine (few_any w1 _ n c xs (hX0.out.kept hK.out)).mono ?_; rintro e w' ⟨rfl, rfl⟩
  rw [hm.out]
  clear hm hX0
  go_wp2_with (fail)
  refine (few_any w1 _ n' c' xs' (hY0.out.kept hK.out)).mono ?_; rintro e w' ⟨rfl, rfl⟩
  rw [hm'.out]
  clear hm' hY0
  go_wp2_with (fail)
  refine (M.new_yes m (by omega) w1).mono ?_; rintro e w2 ⟨rfl, hM, hK2, hs⟩
  have hB : w.heap.size ≤ w1.heap.size := hK.out.size
  replace hK := Lib.hid (hK.out.trans hK2)
  replace hM := Lib.hid hM
  generalize w1.heap.size = B at *
  clear hK2 hs
  go_wp2_with (fail)
  refine (M.place_zero hM.out _ _ _ _ (hX.out.kept hK.out) (by simp)).mono ?_; rintro e w3 ⟨rfl, hM3, hB3⟩
  replace hM := Lib.hid hM3
  replace hK := Lib.hid (hK.out.thenBut hB3 hB)
  clear hM3 hB3
  go_wp2_with (fail)
  refine (M.place_no hM.out a A' m' c' (by unfold maxLen; omega) a0 a1 (by omega)).mono ?_; rintro e w4 ⟨rfl, rfl⟩
  go_wp2_with (fail)
  refine (M.words_any hM.out).mono ?_; rintro e w8 ⟨g, rfl, hg, hW8, hK8⟩
  rw [hl] at hW8
  rw [hl]
  replace hK := Lib.hid (hK.out.trans hK8)
  replace hW8 := Lib.hid hW8
  clear hK8
  go_wp2_with (fail)
  refine (same_any hW8.out (hX.out.kept hK.out)).mono ?_; rintro e w9 ⟨rfl, hK9⟩
  rw [decide_eq_true rfl]
  replace hK := Lib.hid (hK.out.trans hK9)
  clear hK9 hW8
  go_wp2
  go_ret
  exact ⟨rfl, hK.out.below⟩
set_option maxRecDepth 100000 in
theorem walk_places_d (w : World) (A A' : Option Addr) (n c n' c' : Nat) (xs xs' : List Int) (hX0 : Hid (Ws w A n c xs)) (hY0 : Hid (Ws w A' n' c' xs')) (m m' : Nat) (hm : Hid (min n 12 = m)) (hm' : Hid (min n' 12 = m')) (ws ys : List Int) (hX : Hid (Ws w A m c ws)) (hY : Hid (Ws w A' m' c' ys)) (hm12 : m ≤ 12) (hm12' : m' ≤ 12) (k : Nat) (c1 : k + m' ≤ m) :
    Calls Try.prog 6 #[.slice A n c, .slice A' n' c', .int .i64 k] w fun e w' => e = .returned (.bool true) ∧ Below w.heap.size w w' := by
  have hl := hX.out.len
  have hl' := hY.out.len
  have c2 : ¬ (k : Int) < 0 := by omega
  have c3 : (k : Int) ≤ m := by omega
  have c4 : (m' : Int) ≤ (m : Int) - k := by omega
  go_enter Try.func6, Try.ntmps6
  go_wp2_with (fail)
  refine (shown_any w).mono ?_; rintro e w1 ⟨rfl, hK⟩
  replace hK := Lib.hid hK
  go_wp2_with (fail)
  refine (few_any w1 _ n c xs (hX0.out.kept hK.out)).mono ?_; rintro e w' ⟨rfl, rfl⟩
  rw [hm.out]
  clear hm hX0
  go_wp2_with (fail)
  refine (few_any w1 _ n' c' xs' (hY0.out.kept hK.out)).mono ?_; rintro e w' ⟨rfl, rfl⟩
  rw [hm'.out]
  clear hm' hY0
  go_wp2_with (fail)
  refine (M.new_yes m (by omega) w1).mono ?_; rintro e w2 ⟨rfl, hM, hK2, hs⟩
  have hB : w.heap.size ≤ w1.heap.size := hK.out.size
  replace hK := Lib.hid (hK.out.trans hK2)
  replace hM := Lib.hid hM
  generalize w1.heap.size = B at *
  clear hK2 hs
  go_wp2_with (fail)
  refine (M.place_zero hM.out _ _ _ _ (hX.out.kept hK.out) (by simp)).mono ?_; rintro e w3 ⟨rfl, hM3, hB3⟩
  replace hM := Lib.hid hM3
  replace hK := Lib.hid (hK.out.thenBut hB3 hB)
  clear hM3 hB3
  go_wp2_with (fail)
  refine (M.place_yes hM.out k A' m' c' ys (hY.out.kept hK.out) (by omega)).mono ?_; rintro e w4 ⟨rfl, hM4, hB4⟩
  replace hM := Lib.hid hM4
  replace hK := Lib.hid (hK.out.thenBut hB4 hB)
  clear hM4 hB4
  go_wp2_with (fail)
  refine (M.words_any hM.out).mono ?_; rintro e w8 ⟨g, rfl, hg, hW8, hK8⟩
  rw [M.placed_len ws ys k (by omega), hl] at hW8
  rw [M.placed_len ws ys k (by omega), hl]
  replace hK := Lib.hid (hK.out.trans hK8)
  replace hW8 := Lib.hid hW8
  replace hX := Lib.hid (hX.out.kept hK.out)
  replace hY := Lib.hid (hY.out.kept hK.out)
  clear hK8 hM
  go_wp2
  go_loopw [15] (fun i wr => ∃ j : Nat, j ≤ m ∧ i = .int .i64 j ∧ wr = w8) (fun i _ => m - (intOf i).toNat)
  case atStart => exact ⟨0, Nat.zero_le _, rfl, rfl⟩
  case round =>
    obtain ⟨j, hj, rfl, rfl⟩ := hrel
    by_cases d1 : j < m
    · have hjm : (j : Int) < m := by omega
      obtain ⟨x, hx⟩ : ∃ x, ws[j]? = some x := ⟨_, List.getElem?_eq_getElem (by omega)⟩
      obtain ⟨b, off, hA⟩ : ∃ b off, A = some ⟨b, off, none⟩ := by
        cases A with
        | none => have := hX.out.nil rfl; have := hX.out.le; omega
        | some ad => obtain ⟨b, off, rfl⟩ := hX.out.addr (by omega); exact ⟨b, off, rfl⟩
      subst hA
      have g1 := hX.out.cellAt j x hx
      by_cases d2 : k ≤ j ∧ j < k + m'
      · obtain ⟨y, hy⟩ : ∃ y, ys[j - k]? = some y := ⟨_, List.getElem?_eq_getElem (by omega)⟩
        obtain ⟨b', off', hA'⟩ : ∃ b off, A' = some ⟨b, off, none⟩ := by
          cases A' with
          | none => have := hY.out.nil rfl; have := hY.out.le; omega
          | some ad => obtain ⟨b, off, rfl⟩ := hY.out.addr (by omega); exact ⟨b, off, rfl⟩
        subst hA'
        have g2 := hY.out.cellAt (j - k) y hy
        have g3 := hW8.out.cellAt j y (by rw [M.placed_in ws ys k j (by omega) d2.1 (by omega)]; exact hy)
        rw [Nat.zero_add] at g3
        have d3 : (k : Int) ≤ j := by omega
        have d4 : (j : Int) < (k : Int) + m' := by omega
        have d5 : (y != y) = false := by simp
        clear hx hy d2
        go_wp2
        go_roundw
        case rel => exact ⟨j + 1, by omega, by go_num, by first | rfl | trivial⟩
        case measure => simp [intOf]; omega
      · have g3 := hW8.out.cellAt j x (by rw [M.placed_out ws ys k j (by omega) (by omega)]; exact hx)
        rw [Nat.zero_add] at g3
        have d5 : (x != x) = false := by simp
        by_cases d3 : k ≤ j
        · have d4 : (k : Int) ≤ j := by omega
          have d6 : ¬ (j : Int) < (k : Int) + m' := by omega
          clear hx d2
          go_wp2
          go_roundw
          case rel => exact ⟨j + 1, by omega, by go_num, by first | rfl | trivial⟩
          case measure => simp [intOf]; omega
        · have d4 : ¬ (k : Int) ≤ j := by omega
          clear hx d2
          go_wp2
          go_roundw
          case rel => exact ⟨j + 1, by omega, by go_num, by first | rfl | trivial⟩
          case measure => simp [intOf]; omega
    · have hjm : ¬ (j : Int) < m := by omega
      go_wp2
      go_ret
      exact ⟨rfl, hK.out.below⟩
theorem walk_places (w : World) (A A' : Option Addr) (n c n' c' : Nat) (xs xs' : List Int) (hx : Ws w A n c xs) (hx' : Ws w A' n' c' xs') (a : Int) (a0 : -9223372036854775808 ≤ a) (a1 : a ≤ 9223372036854775807) :
    Calls Try.prog 6 #[.slice A n c, .slice A' n' c', .int .i64 a] w fun e w' => e = .returned (.bool true) ∧ Below w.heap.size w w' := by
  have hX := hx.take (min n 12) (by omega)
  have hY := hx'.take (min n' 12) (by omega)
  rcases Int.lt_or_le a 0 with c1 | c1
  · exact walk_places_a w A A' n c n' c' xs xs' hx hx' _ _ rfl rfl _ _ hX hY (by omega) (by omega) a a0 a1 c1
  · rcases Int.lt_or_le (min n 12 : Nat) a with c2 | c2
    · exact walk_places_b w A A' n c n' c' xs xs' hx hx' _ _ rfl rfl _ _ hX hY (by omega) (by omega) a a0 a1 (by omega) c2
    · rcases Int.lt_or_le ((min n 12 : Nat) - a) (min n' 12 : Nat) with c3 | c3
      · exact walk_places_c w A A' n c n' c' xs xs' hx hx' _ _ rfl rfl _ _ hX hY (by omega) (by omega) a a0 a1 (by omega) c2 c3
      · obtain ⟨k, rfl⟩ := Int.eq_ofNat_of_zero_le c1
        exact walk_places_d w A A' n c n' c' xs xs' hx hx' _ _ rfl rfl _ _ hX hY (by omega) (by omega) k (by omega)
end Go.Proofs.Ytkefggnocmmeoaa
