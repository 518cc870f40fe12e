/-
  The document's example; the head that the laws of memory share; walks of MemoryOwn, MemoryPlaces, MemoryTraps.
-/
import Derived.Test.YtkefggnocmmeoaaMem4
namespace Go.Proofs.Ytkefggnocmmeoaa
open Go.RowKit
set_option linter.unusedVariables false
set_option linter.unusedSimpArgs false
theorem Ws.one {w : World} {g : Nat} {x : Int} {t : TypeId} (h : Has g #[.int .u32 x] t w) (h0 : 0 ≤ x) (h1 : x < 4294967296) : Ws w (some ⟨g, 0, none⟩) 1 1 [x] :=
  ⟨rfl, Nat.le_refl _, by simp [maxLen], by simp, by simpa using ⟨h0, h1⟩, fun ad e j y hy => by
    cases e
    match j, hy with
    | 0, hy => simp at hy; subst hy; exact h.cell 0 _ rfl⟩
theorem M.byte_shown : M.byte [67305985] 1 = 2 ∧ M.bt [67305985] 1 = 0 := by decide
theorem M.new_one (w : World) : Calls Try.prog 9 #[.int .i64 1] w fun e w' => e = .returned (.tuple #[.pointer (some ⟨w.heap.size, 0, none⟩), .int .i64 0]) ∧ Mem w.heap.size [0] w' ∧ Kept w w' ∧ w'.heap.size = w.heap.size + 1 := M.new_yes 1 (by omega) w
theorem M.place_zero {B : Nat} {ws : List Int} {w : World} (h : Mem B ws w) (A : Option Addr) (n c : Nat) (xs : List Int) (hx : Ws w A n c xs) (hf : n = ws.length) :
    Calls Try.prog 19 #[.pointer (some ⟨B, 0, none⟩), .int .i64 0, .slice A n c] w fun e w' => e = .returned (.int .i64 0) ∧ Mem B xs w' ∧ But B w w' := by
  have := M.place_yes h 0 A n c xs hx (by omega)
  have e : M.placed ws 0 xs = xs := by
    unfold M.placed
    rw [List.drop_of_length_le (by have := hx.len; omega)]
    simp
  rw [e] at this
  exact this
set_option maxRecDepth 100000 in
theorem shown_any (w : World) : Calls Try.prog 8 #[] w fun e w' => e = .returned (.bool true) ∧ Kept w w' := by
  go_enter Try.func8, Try.ntmps8
  go_wp2_with (fail)
  refine (M.new_one w).mono ?_; rintro e w1 ⟨rfl, hM, hK, hs⟩
  have hs1 : w.heap.size ≤ w1.heap.size := hK.size
  replace hM := Lib.hid hM
  replace hK := Lib.hid hK
  generalize hg : w.heap.size = B at *
  clear hs
  go_wp2_with (fail)
  have hA := Lib.hid ((Kept.refl w1).alloc #[Value.int .u32 67305985] 31)
  have hX := Lib.hid (Ws.one (Has.new #[Value.int .u32 67305985] 31 w1) (by omega) (by omega))
  generalize w1.alloc _ = w2 at *
  generalize w1.heap.size = g at *
  refine (M.place_zero (hM.out.kept hA.out) _ _ _ _ hX.out rfl).mono ?_; rintro e w3 ⟨rfl, hM3, hB3⟩
  replace hM := Lib.hid hM3
  replace hK := Lib.hid ((hK.out.trans hA.out).thenBut hB3 (by omega))
  clear hA hX hM3 hB3
  go_wp2_with (fail)
  refine (M.byte_any hM.out 1 (by omega) (by omega)).mono ?_; rintro e w4 ⟨rfl, hK4⟩
  rw [M.byte_shown.1, M.byte_shown.2]
  replace hK := Lib.hid (hK.out.trans hK4)
  clear hK4 hM
  go_wp2
  go_ret
  exact ⟨rfl, hK.out⟩
theorem M.setW_self (ws : List Int) (a : Int) (h0 : 0 ≤ a) : M.setW ws a (M.word ws a) = ws := by
  unfold M.setW M.word
  by_cases c : M.wt ws a = 0
  · rw [if_pos c, if_pos c]
    have c3 := M.bt_zero h0 (M.wt_zero c).2
    rw [show ws.getD (a / 4).toNat 0 = ws[(a / 4).toNat] by simp [c3]]
    exact List.set_getElem_self c3
  · rw [if_neg c]
theorem M.setB_self (ws : List Int) (a : Int) (h0 : 0 ≤ a) : M.setB ws a (M.byte ws a) = ws := by
  unfold M.setB M.byte
  by_cases c : M.bt ws a = 0
  · rw [if_pos c, if_pos c]
    have c3 := M.bt_zero h0 c
    rw [show ws.getD (a / 4).toNat 0 = ws[(a / 4).toNat] by simp [c3]]
    rw [show M.mix ws[(a / 4).toNat] a (ws[(a / 4).toNat] / 2 ^ (8 * (a % 4)).toNat % 256) = ws[(a / 4).toNat] by unfold M.mix; omega]
    exact List.set_getElem_self c3
  · rw [if_neg c]
theorem M.word_range (ws : List Int) (a : Int) (hr : ∀ x ∈ ws, 0 ≤ x ∧ x < 4294967296) : 0 ≤ M.word ws a ∧ M.word ws a < 4294967296 := by
  unfold M.word
  split
  · rw [List.getD_eq_getElem?_getD]
    cases h : ws[(a / 4).toNat]? with
    | none => simp
    | some x => exact hr x (List.mem_of_getElem? h)
  · omega
theorem M.byte_range (ws : List Int) (a : Int) : 0 ≤ M.byte ws a ∧ M.byte ws a < 256 := by
  unfold M.byte
  split <;> omega
theorem M.cases (ws : List Int) (a : Int) (h0 : 0 ≤ a) : (a % 4 = 0 ∧ 4 * (ws.length : Int) ≤ a ∧ M.wt ws a = 3 ∧ M.bt ws a = 3 ∧ M.word ws a = 0 ∧ M.byte ws a = 0) ∨ (a % 4 = 0 ∧ ¬ 4 * (ws.length : Int) ≤ a ∧ M.wt ws a = 0 ∧ M.bt ws a = 0) ∨
    (¬ a % 4 = 0 ∧ 4 * (ws.length : Int) ≤ a ∧ M.wt ws a = 4 ∧ M.bt ws a = 3 ∧ M.word ws a = 0 ∧ M.byte ws a = 0) ∨ (¬ a % 4 = 0 ∧ ¬ 4 * (ws.length : Int) ≤ a ∧ M.wt ws a = 4 ∧ M.bt ws a = 0 ∧ M.word ws a = 0) := by
  have hb : M.bt ws a = if 4 * (ws.length : Int) ≤ a then 3 else 0 := by
    unfold M.bt
    by_cases c : 4 * (ws.length : Int) ≤ a
    · rw [if_pos c, if_pos (by omega)]
    · rw [if_neg c, if_neg (by omega)]
  by_cases c1 : a % 4 = 0 <;> by_cases c2 : 4 * (ws.length : Int) ≤ a <;> simp only [M.word, M.byte, M.wt, c1, hb, c2, if_true, if_false] <;> simp
set_option maxRecDepth 100000 in
/-- MemoryTraps: with letters for every answer -/
theorem walk_traps_at (w : World) (A : Option Addr) (n c : Nat) (xs : List Int) (hx : Ws w A n c xs) (a : Int) (h0 : 0 ≤ a) (h1 : a < 4294967296) (m : Nat) (hm : min n 12 = m) (ws : List Int) (hws : xs.take m = ws) (vw vb tw tb : Int)
    (e1 : M.word ws a = vw) (e2 : M.byte ws a = vb) (e3 : M.wt ws a = tw) (e4 : M.bt ws a = tb)
    (hc : (a % 4 = 0 ∧ 4 * (m : Int) ≤ a ∧ tw = 3 ∧ tb = 3 ∧ vw = 0 ∧ vb = 0) ∨ (a % 4 = 0 ∧ ¬ 4 * (m : Int) ≤ a ∧ tw = 0 ∧ tb = 0) ∨
    (¬ a % 4 = 0 ∧ 4 * (m : Int) ≤ a ∧ tw = 4 ∧ tb = 3 ∧ vw = 0 ∧ vb = 0) ∨ (¬ a % 4 = 0 ∧ ¬ 4 * (m : Int) ≤ a ∧ tw = 4 ∧ tb = 0 ∧ vw = 0)) :
    Calls Try.prog 7 #[.slice A n c, .int .u32 a] w fun e w' => e = .returned (.bool true) ∧ Below w.heap.size w w' := by
  have hmn : m ≤ n := by omega
  have hm12 : m ≤ 12 := by omega
  have hX := hx.take m hmn
  rw [hws] at hX
  have W1 := Lib.hid (M.setW_self ws a h0)
  have W2 := Lib.hid (M.setB_self ws a h0)
  have r1 := M.word_range ws a hX.rng
  have r2 := M.byte_range ws a
  rw [e1] at W1 r1
  rw [e2] at W2 r2
  replace hX := Lib.hid hX
  have hX0 := Lib.hid hx
  clear hx hws
  replace e1 := Lib.hid e1
  replace e2 := Lib.hid e2
  replace e3 := Lib.hid e3
  replace e4 := Lib.hid e4
  replace hm := Lib.hid hm
  go_enter Try.func7, Try.ntmps7
  go_wp2_with (fail)
  refine (shown_any w).mono ?_; rintro e w1 ⟨rfl, hK⟩
  replace hK := Lib.hid hK
  go_wp2_with (fail)
  refine (few_any w1 A n c xs (hX0.out.kept hK.out)).mono ?_; rintro e w' ⟨rfl, rfl⟩
  rw [hm.out]
  clear hm hX0
  go_wp2_with (fail)
  refine (M.new_yes m (by omega) w1).mono ?_; rintro e w2 ⟨rfl, hM, hK2, hs⟩
  have hB : w.heap.size ≤ w1.heap.size := hK.out.size
  replace hK := Lib.hid (hK.out.trans hK2)
  replace hM := Lib.hid hM
  generalize w1.heap.size = B at *
  clear hK2 hs
  go_wp2_with (fail)
  refine (M.place_zero hM.out _ _ _ _ (hX.out.kept hK.out) (by simp)).mono ?_; rintro e w3 ⟨rfl, hM3, hB3⟩
  replace hM := Lib.hid hM3
  replace hK := Lib.hid (hK.out.thenBut hB3 hB)
  clear hM3 hB3
  rcases hc with ⟨c1, c2, rfl, rfl, rfl, rfl⟩ | ⟨c1, c2, rfl, rfl⟩ | ⟨c1, c2, rfl, rfl, rfl, rfl⟩ | ⟨c1, c2, rfl, rfl, rfl⟩
  all_goals
    go_wp2_with (fail)
    refine (M.word_any hM.out a h0 h1).mono ?_; rintro e w4 ⟨rfl, rfl⟩
    rw [e1.out, e3.out]
    go_wp2_with (fail)
    refine (M.byte_any hM.out a h0 h1).mono ?_; rintro e w5 ⟨rfl, hK5⟩
    rw [e2.out, e4.out]
    replace hM := Lib.hid (hM.out.kept hK5)
    replace hK := Lib.hid (hK.out.trans hK5)
    clear hK5
    go_wp2_with (fail)
    refine (M.setW_any hM.out a _ h0 h1 r1.1 r1.2).mono ?_; rintro e w6 ⟨rfl, hM6, hB6⟩
    rw [W1.out] at hM6
    rw [e3.out]
    replace hM := Lib.hid hM6
    replace hK := Lib.hid (hK.out.thenBut hB6 hB)
    clear hM6 hB6
    go_wp2_with (fail)
    refine (M.setB_any hM.out a _ h0 h1 r2.1 r2.2).mono ?_; rintro e w7 ⟨rfl, hM7, hB7⟩
    rw [W2.out] at hM7
    rw [e4.out]
    replace hM := Lib.hid hM7
    replace hK := Lib.hid (hK.out.thenBut hB7 hB)
    clear hM7 hB7
    go_wp2_with (fail)
    refine (M.words_any hM.out).mono ?_; rintro e w8 ⟨g, rfl, hg, hW8, hK8⟩
    replace hK := Lib.hid (hK.out.trans hK8)
    replace hW8 := Lib.hid hW8
    clear hK8
    go_wp2_with (fail)
    refine (same_any hW8.out (hX.out.kept hK.out)).mono ?_; rintro e w9 ⟨rfl, hK9⟩
    rw [decide_eq_true rfl]
    replace hK := Lib.hid (hK.out.trans hK9)
    clear hK9 hW8
    go_wp2
    go_ret
    exact ⟨rfl, hK.out.below⟩
theorem walk_traps (w : World) (A : Option Addr) (n c : Nat) (xs : List Int) (hx : Ws w A n c xs) (a : Int) (h0 : 0 ≤ a) (h1 : a < 4294967296) :
    Calls Try.prog 7 #[.slice A n c, .int .u32 a] w fun e w' => e = .returned (.bool true) ∧ Below w.heap.size w w' := by
  have := M.cases (xs.take (min n 12)) a h0
  rw [show (xs.take (min n 12)).length = min n 12 by rw [List.length_take, hx.len]; omega] at this
  exact walk_traps_at w A n c xs hx a h0 h1 _ rfl _ rfl _ _ _ _ rfl rfl rfl rfl this
end Go.Proofs.Ytkefggnocmmeoaa
