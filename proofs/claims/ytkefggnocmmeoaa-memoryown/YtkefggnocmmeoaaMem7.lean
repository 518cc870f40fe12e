/-
  The walk of MemoryOwn.
-/
import Derived.Test.YtkefggnocmmeoaaMemA
namespace Go.Proofs.Ytkefggnocmmeoaa
open Go.RowKit
set_option linter.unusedVariables false
set_option linter.unusedSimpArgs false
/-- a row of so many words at least -/
def Long (g n : Nat) (w : World) : Prop := ∃ cs : Array Value, n ≤ cs.size ∧ Has g cs 31 w
theorem Long.set {g n : Nat} {w : World} (h : Long g n w) (j : Nat) (v : Value) : Long g n (w.setCell ⟨g, j, none⟩ v) := by
  obtain ⟨cs, h1, h2⟩ := h
  exact ⟨_, by simpa using h1, h2.set j v⟩
theorem Long.cell {g n : Nat} {w : World} (h : Long g n w) (j : Nat) (hj : j < n) : ∃ v, w.cell? ⟨g, j, none⟩ = some v := by
  obtain ⟨cs, h1, h2⟩ := h
  exact ⟨_, h2.cell j _ (Array.getElem?_eq_getElem (by omega))⟩
theorem Long.free {g n : Nat} {w : World} (h : Long g n w) (j : Nat) : w.frozen? ⟨g, j, none⟩ = false := by
  obtain ⟨cs, h1, h2⟩ := h
  exact h2.free j
theorem Long.kept {g n : Nat} {w w' : World} (h : Long g n w) (hK : Kept w w') : Long g n w' := by
  obtain ⟨cs, h1, h2⟩ := h
  exact ⟨cs, h1, h2.kept hK⟩
theorem Long.but {g n B : Nat} {w w' : World} (h : Long g n w) (hK : But B w w') (hg : g ≠ B) : Long g n w' := by
  obtain ⟨cs, h1, h2⟩ := h
  exact ⟨cs, h1, hK.has hg h2⟩
set_option maxRecDepth 100000 in
theorem walk_own_at (w : World) (A : Option Addr) (n c : Nat) (xs : List Int) (hX0 : Hid (Ws w A n c xs)) (m : Nat) (hm : Hid (min n 12 = m)) (ws : List Int) (hX : Hid (Ws w A m c ws)) (hm12 : m ≤ 12) (x : Int) (x0 : 0 ≤ x) (x1 : x < 4294967296) :
    Calls Try.prog 5 #[.slice A n c, .int .u32 x] w fun e w' => e = .returned (.bool true) ∧ Below w.heap.size w w' := by
  have hl := hX.out.len
  go_enter Try.func5, Try.ntmps5
  go_wp2_with (fail)
  refine (shown_any w).mono ?_; rintro e w1 ⟨rfl, hK⟩
  have hN : w.heap.size ≤ w1.heap.size := hK.size
  have hO := Lib.hid (Own.new w1 w1.heap.size (Nat.le_refl _))
  replace hK := Lib.hid (hK.alloc #[] 31)
  go_wp2_with (fail)
  have hz : w1.heap.size < (w1.alloc (Obj.cells #[] 31)).heap.size := by simp
  generalize w1.alloc (Obj.cells #[] 31) = w2 at *
  generalize w1.heap.size = b0 at *
  refine (few_any w2 A n c xs (hX0.out.kept hK.out)).mono ?_; rintro e w' ⟨rfl, rfl⟩
  rw [hm.out]
  go_wp2_with (with_reducible refine append_words (o := ⟨some 16, _, _, _, _, _⟩) rfl (.tmp 13) (.tmp 15) rfl b0 b0 0 0 [] rfl hO.out A m c ws rfl (hX.out.kept hK.out) (by omega) (by omega) ?_; intro g cap w3 hO3 hG3)
  rw [Nat.zero_add, List.nil_append] at hO3
  have hb : Below w.heap.size w w3 := hK.out.below.grown hG3 (by omega) (fun k e => by cases e; omega)
  obtain ⟨o1, o2, o3, o4, cur, o5, o6, o7⟩ := hO3.has
  have hL : Long g m w3 := ⟨cur, by omega, o5⟩
  have hW := Lib.hid (hO3.ws hX.out.rng)
  have hgl := o5.lt
  have hN3 : w.heap.size ≤ w3.heap.size := hb.size
  replace hb := Lib.hid hb
  replace hL := Lib.hid hL
  clear hO3 hG3 o2 o3 o4 o5 o6 o7 cur hz hO hK
  refine (M.new_yes m (by omega) w3).mono ?_; rintro e w4 ⟨rfl, hM, hK4, hs⟩
  replace hb := Lib.hid (below_kept hb.out hK4 hN3)
  replace hL := Lib.hid (hL.out.kept hK4)
  replace hW := Lib.hid (hW.out.kept hK4)
  replace hM := Lib.hid hM
  generalize hBe : w3.heap.size = B at *
  have hN4 : w.heap.size ≤ w4.heap.size := hb.out.size
  clear hK4
  go_wp2_with (fail)
  refine (M.place_zero hM.out _ _ _ _ hW.out (by simp)).mono ?_; rintro e w5 ⟨rfl, hM5, hB5⟩
  replace hM := Lib.hid hM5
  replace hb := Lib.hid (below_but hb.out hB5 (by omega) hN4)
  replace hL := Lib.hid (hL.out.but hB5 (by omega))
  have hN5 : w.heap.size ≤ w5.heap.size := hb.out.size
  have hB5s := hM.out.lt
  clear hM5 hB5 hW
  go_wp2_with (fail)
  refine (M.words_has hM.out).mono ?_; rintro e w6 ⟨g2, rfl, hg2, hH6, hK6⟩
  rw [hl]
  have hL2 : Long g2 m w6 := ⟨_, by simp; omega, hH6⟩
  replace hL2 := Lib.hid hL2
  replace hM := Lib.hid (hM.out.kept hK6)
  replace hb := Lib.hid (below_kept hb.out hK6 hN5)
  replace hL := Lib.hid (hL.out.kept hK6)
  have hN6 : w.heap.size ≤ w6.heap.size := hb.out.size
  clear hK6 hH6
  go_wp2
  go_loopw [10] (fun i wr => ∃ k : Nat, k ≤ m ∧ i = .int .i64 k ∧ But g w6 wr ∧ Long g m wr) (fun i _ => m - (intOf i).toNat)
  case atStart => exact ⟨0, Nat.zero_le _, rfl, But.refl _ _, hL.out⟩
  case round =>
    obtain ⟨k, hk, rfl, hBr, hLr⟩ := hrel
    by_cases d1 : k < m
    · have d2 : (k : Int) < m := by omega
      obtain ⟨v, hv⟩ := hLr.cell k d1
      have hf := hLr.free k
      replace hBr := Lib.hid (hBr.setCell k (.int .u32 x))
      replace hLr := Lib.hid (hLr.set k (.int .u32 x))
      go_wp2
      go_roundw
      case rel => exact ⟨k + 1, by omega, by go_num, hBr.out, hLr.out⟩
      case measure => simp [intOf]; omega
    · have d2 : ¬ (k : Int) < m := by omega
      replace hM := Lib.hid (hM.out.but hBr (by omega))
      replace hb := Lib.hid (below_but hb.out hBr (by omega) hN6)
      replace hL2 := Lib.hid (hL2.out.but hBr (by omega))
      have hN7 : w.heap.size ≤ wr.heap.size := hb.out.size
      clear hBr hLr hL
      rename World => w7
      go_wp2
      go_loopw [11] (fun i wr => ∃ k : Nat, k ≤ m ∧ i = .int .i64 k ∧ But g2 w7 wr ∧ Long g2 m wr) (fun i _ => m - (intOf i).toNat)
      case atStart => exact ⟨0, Nat.zero_le _, rfl, But.refl _ _, hL2.out⟩
      case round =>
        clear hk d1 d2
        obtain ⟨k, hk, rfl, hBr, hLr⟩ := hrel
        by_cases d1 : k < m
        · have d2 : (k : Int) < m := by omega
          obtain ⟨v, hv⟩ := hLr.cell k d1
          have hf := hLr.free k
          replace hBr := Lib.hid (hBr.setCell k (.int .u32 x))
          replace hLr := Lib.hid (hLr.set k (.int .u32 x))
          go_wp2
          go_roundw
          case rel => exact ⟨k + 1, by omega, by go_num, hBr.out, hLr.out⟩
          case measure => simp [intOf]; omega
        · have d2 : ¬ (k : Int) < m := by omega
          replace hM := Lib.hid (hM.out.but hBr (by omega))
          replace hb := Lib.hid (below_but hb.out hBr (by omega) hN7)
          have hN8 : w.heap.size ≤ wr.heap.size := hb.out.size
          clear hBr hLr hL2
          go_wp2_with (fail)
          refine (M.words_any hM.out).mono ?_; rintro e w8 ⟨g3, rfl, hg3, hW8, hK8⟩
          rw [hl] at hW8 ⊢
          replace hb := Lib.hid (below_kept hb.out hK8 hN8)
          replace hM := Lib.hid (hM.out.kept hK8)
          replace hW8 := Lib.hid hW8
          have hN9 : w.heap.size ≤ w8.heap.size := hb.out.size
          clear hK8
          go_wp2_with (fail)
          refine (few_any w8 A n c xs (hX0.out.below (w0 := w) (Nat.le_refl _) hb.out)).mono ?_; rintro e w' ⟨rfl, rfl⟩
          rw [hm.out]
          go_wp2_with (fail)
          refine (same_any hW8.out (hX.out.below (w0 := w) (Nat.le_refl _) hb.out)).mono ?_; rintro e w9 ⟨rfl, hK9⟩
          rw [decide_eq_true rfl]
          replace hb := Lib.hid (below_kept hb.out hK9 hN9)
          replace hM := Lib.hid (hM.out.kept hK9)
          clear hK9 hW8
          go_wp2_with (fail)
          refine (few_any w9 A n c xs (hX0.out.below (w0 := w) (Nat.le_refl _) hb.out)).mono ?_; rintro e w' ⟨rfl, rfl⟩
          rw [hm.out]
          go_wp2_with (fail)
          refine (M.place_no hM.out 1 A m c (by unfold maxLen; omega) (by omega) (by omega) (by omega)).mono ?_; rintro e w' ⟨rfl, rfl⟩
          go_wp2
          go_ret
          exact ⟨rfl, hb.out⟩
theorem walk_own (w : World) (A : Option Addr) (n c : Nat) (xs : List Int) (hx : Ws w A n c xs) (x : Int) (x0 : 0 ≤ x) (x1 : x < 4294967296) :
    Calls Try.prog 5 #[.slice A n c, .int .u32 x] w fun e w' => e = .returned (.bool true) ∧ Below w.heap.size w w' :=
  walk_own_at w A n c xs hx _ rfl _ (hx.take (min n 12) (by omega)) (by omega) x x0 x1
end Go.Proofs.Ytkefggnocmmeoaa
