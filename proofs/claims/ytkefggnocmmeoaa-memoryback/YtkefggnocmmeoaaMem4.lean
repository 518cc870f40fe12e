/-
  The contracts of the small functions that the laws of memory call: few, Same.
-/
import Derived.Test.YtkefggnocmmeoaaMem3
import Derived.LoopTactic
namespace Go.Proofs.Ytkefggnocmmeoaa
open Go.RowKit
set_option linter.unusedVariables false
set_option linter.unusedSimpArgs false
theorem Ws.addr {w : World} {ad : Addr} {n c : Nat} {xs : List Int} (h : Ws w (some ad) n c xs) (hn : 0 < n) : ∃ b off, ad = ⟨b, off, none⟩ := by
  have hl : 0 < xs.length := by have := h.len; omega
  have hx := h.cel ad rfl 0 _ (List.getElem?_eq_getElem hl)
  obtain ⟨b, off, spot⟩ := ad
  have hspot : spot = none := by simpa [Addr.add] using World.cell?_spot hx
  subst hspot
  exact ⟨b, off, rfl⟩
theorem Ws.cellAt {w : World} {b off n c : Nat} {xs : List Int} (h : Ws w (some ⟨b, off, none⟩) n c xs) (j : Nat) (x : Int) (hx : xs[j]? = some x) : w.cell? ⟨b, off + j, none⟩ = some (.int .u32 x) := by
  have := h.cel _ rfl j x hx
  rwa [show (⟨b, off, none⟩ : Addr).add j = ⟨b, off + j, none⟩ by cases j <;> simp [Addr.add]] at this
theorem few_any (w : World) (A : Option Addr) (n c : Nat) (xs : List Int) (hx : Ws w A n c xs) :
    Calls Try.prog 20 #[.slice A n c] w fun e w' => e = .returned (.slice A (min n 12) c) ∧ w = w' := by
  have h1 := hx.le
  have h2 := hx.max
  unfold maxLen at h2
  clear hx
  by_cases c1 : n ≤ 12
  · rw [Nat.min_eq_left c1]
    go_enter Try.func20, Try.ntmps20
    go_wp2
    go_ret
    exact ⟨rfl, rfl⟩
  · rw [Nat.min_eq_right (by omega)]
    go_enter Try.func20, Try.ntmps20
    go_wp2
    go_ret
    exact ⟨rfl, rfl⟩
theorem take_step {xs ys : List Int} {k : Nat} {p : Int} (h : xs.take k = ys.take k) (hx : xs[k]? = some p) (hy : ys[k]? = some p) : xs.take (k + 1) = ys.take (k + 1) := by
  rw [List.take_add_one, List.take_add_one, h, hx, hy]
theorem take_apart {xs ys : List Int} {k : Nat} {p q : Int} (hx : xs[k]? = some p) (hy : ys[k]? = some q) (hpq : p ≠ q) : xs ≠ ys := by
  intro e
  rw [e, hy] at hx
  cases hx
  exact hpq rfl
set_option maxRecDepth 100000 in
theorem same_loop {w : World} {b off b' off' n c c' : Nat} {xs ys : List Int} (h : Ws w (some ⟨b, off, none⟩) n c xs) (h' : Ws w (some ⟨b', off', none⟩) n c' ys) (hn : 0 < n) :
    Calls Try.prog 22 #[.slice (some ⟨b, off, none⟩) n c, .slice (some ⟨b', off', none⟩) n c'] w fun e w' => e = .returned (.bool (decide (xs = ys))) ∧ Kept w w' := by
  have hm := h.max
  have hle := h.le
  unfold maxLen at hm
  have hn1 : (n : Int) ≤ 9223372036854775807 := by omega
  have hb := h.lt hn
  have hb' := h'.lt hn
  have hl := h.len
  have hl' := h'.len
  have H := Lib.hid h
  have H' := Lib.hid h'
  clear h h' hm
  go_enter Try.func22, Try.ntmps22
  go_wp2
  go_loopw [5] (fun i wr => ∃ k : Nat, k ≤ n ∧ i = .int .i64 k ∧ xs.take k = ys.take k ∧ Kept w wr) (fun i _ => n - (intOf i).toNat)
  case atStart => exact ⟨0, Nat.zero_le _, rfl, rfl, Kept.refl w⟩
  case round =>
    obtain ⟨k, hk, rfl, ht, hK⟩ := hrel
    by_cases c1 : k < n
    · obtain ⟨p, hp⟩ : ∃ p, xs[k]? = some p := ⟨_, List.getElem?_eq_getElem (by omega)⟩
      obtain ⟨q, hq⟩ : ∃ q, ys[k]? = some q := ⟨_, List.getElem?_eq_getElem (by omega)⟩
      have g1 := (hK.cell (p := ⟨b, off + k, none⟩) hb).trans (H.out.cellAt k p hp)
      have g2 := (hK.cell (p := ⟨b', off' + k, none⟩) hb').trans (H'.out.cellAt k q hq)
      have hkn : (k : Int) < n := by omega
      by_cases c2 : p = q
      · subst c2
        have R := Lib.hid (take_step ht hp hq)
        have c3 : (p != p) = false := by simp
        replace hK := Lib.hid hK
        clear ht hp hq
        go_wp2
        go_quiet (fail)
        go_wp2
        go_roundw
        case rel => exact ⟨k + 1, by omega, by go_num, R.out, hK.out.drewN nq⟩
        case measure => simp [intOf]; omega
      · have R := Lib.hid (take_apart hp hq c2)
        have c3 : (p != q) = true := by simpa using c2
        have c4 : (p == q) = false := by simpa using c2
        replace hK := Lib.hid hK
        clear ht hp hq
        go_wp2
        go_quiet (fail)
        go_wp2
        go_ret
        exact ⟨congrArg (fun b => Ending.returned (Value.bool b)) (decide_eq_false R.out).symm, hK.out.drewN _⟩
    · rw [List.take_of_length_le (by omega), List.take_of_length_le (by omega)] at ht
      have R := Lib.hid ht
      have hkn : ¬ (k : Int) < n := by omega
      replace hK := Lib.hid hK
      clear ht c1
      go_wp2
      go_ret
      exact ⟨congrArg (fun b => Ending.returned (Value.bool b)) (decide_eq_true R.out).symm, hK.out⟩
theorem same_none {w : World} (A A' : Option Addr) (c c' : Nat) :
    Calls Try.prog 22 #[.slice A 0 c, .slice A' 0 c'] w fun e w' => e = .returned (.bool true) ∧ Kept w w' := by
  go_enter Try.func22, Try.ntmps22
  go_wp2
  go_loopw [5] (fun i wr => i = .int .i64 0 ∧ Kept w wr) (fun _ _ => 0)
  case atStart => exact ⟨rfl, Kept.refl w⟩
  case round =>
    obtain ⟨rfl, hK⟩ := hrel
    replace hK := Lib.hid hK
    go_wp2
    go_ret
    exact ⟨rfl, hK.out⟩
theorem same_apart {w : World} (A A' : Option Addr) (n n' c c' : Nat) (hn : ¬ (n : Int) = n') :
    Calls Try.prog 22 #[.slice A n c, .slice A' n' c'] w fun e w' => e = .returned (.bool false) ∧ Kept w w' := by
  have h1 : ((n : Int) != n') = true := by simpa using hn
  have h2 : ((n : Int) == n') = false := by simpa using hn
  go_enter Try.func22, Try.ntmps22
  go_wp2
  go_ret
  exact ⟨rfl, Kept.refl w⟩
theorem same_any {w : World} {A A' : Option Addr} {n n' c c' : Nat} {xs ys : List Int} (h : Ws w A n c xs) (h' : Ws w A' n' c' ys) :
    Calls Try.prog 22 #[.slice A n c, .slice A' n' c'] w fun e w' => e = .returned (.bool (decide (xs = ys))) ∧ Kept w w' := by
  by_cases c1 : n = n'
  · subst c1
    rcases Nat.eq_zero_or_pos n with rfl | hn
    · have e1 : xs = [] := List.eq_nil_of_length_eq_zero h.len
      have e2 : ys = [] := List.eq_nil_of_length_eq_zero h'.len
      subst e1; subst e2
      exact same_none A A' c c'
    · cases A with
      | none => have := h.nil rfl; have := h.le; omega
      | some ad =>
        cases A' with
        | none => have := h'.nil rfl; have := h'.le; omega
        | some ad' =>
          obtain ⟨b, off, rfl⟩ := h.addr hn
          obtain ⟨b', off', rfl⟩ := h'.addr hn
          exact same_loop h h' hn
  · rw [decide_eq_false (fun e : xs = ys => c1 (by rw [← h.len, ← h'.len, e]))]
    exact same_apart A A' n n' c c' (by omega)
end Go.Proofs.Ytkefggnocmmeoaa
