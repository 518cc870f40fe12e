/-
  The contracts of Put and Take of package le and of the document's; of the small functions that the laws call: few, fewOf, Same.
-/
import Derived.StillTailTactics
import Derived.Test.YtpfgmfiegnkocaaLe1
namespace Go.Proofs.Ytpfgmfiegnkocaa
open Go.RowKit
set_option linter.unusedVariables false
set_option linter.unusedSimpArgs false
set_option maxRecDepth 100000
theorem L.info8 : (Try.prog.info? 5).map (fun i => (i.zero, i.size, i.bytes)) = some (some (.int .u8 0), 1, 1) := by kernel_rfl
theorem L.info32 : (Try.prog.info? 39).map (fun i => (i.zero, i.size, i.bytes)) = some (some (.int .u32 0), 1, 4) := by kernel_rfl
theorem take_step {xs ys : List Int} {k : Nat} {p : Int} (h : xs.take k = ys.take k) (hx : xs[k]? = some p) (hy : ys[k]? = some p) : xs.take (k + 1) = ys.take (k + 1) := by
  rw [List.take_add_one, List.take_add_one, h, hx, hy]
theorem take_apart {xs ys : List Int} {k : Nat} {p q : Int} (hx : xs[k]? = some p) (hy : ys[k]? = some q) (hpq : p ≠ q) : xs ≠ ys := by
  intro e
  rw [e, hy] at hx
  cases hx
  exact hpq rfl
set_option maxRecDepth 100000 in
theorem L.same_loop {w : World} {b off b' off' n c c' : Nat} {xs ys : List Int} (h : Wo w (some ⟨b, off, none⟩) n c xs) (h' : Wo w (some ⟨b', off', none⟩) n c' ys) (hn : 0 < n) :
    Calls Try.prog 13 #[.slice (some ⟨b, off, none⟩) n c, .slice (some ⟨b', off', none⟩) n c'] w fun e w' => e = .returned (.bool (decide (xs = ys))) ∧ Kept w w' := by
  have hm := h.max
  have hle := h.le
  unfold maxLen at hm
  have hn1 : (n : Int) ≤ 9223372036854775807 := by omega
  have hb := h.lt hn
  have hb' := h'.lt hn
  have hl := h.len
  have hl' := h'.len
  have H := Lib.hid h
  have H' := Lib.hid h'
  clear h h' hm
  go_enter Try.func13, Try.ntmps13
  go_wp2
  go_loopw [5] (fun i wr => ∃ k : Nat, k ≤ n ∧ i = .int .i64 k ∧ xs.take k = ys.take k ∧ Kept w wr) (fun i _ => n - (intOf i).toNat)
  case atStart => exact ⟨0, Nat.zero_le _, rfl, rfl, Kept.refl w⟩
  case round =>
    obtain ⟨k, hk, rfl, ht, hK⟩ := hrel
    by_cases c1 : k < n
    · obtain ⟨p, hp⟩ : ∃ p, xs[k]? = some p := ⟨_, List.getElem?_eq_getElem (by omega)⟩
      obtain ⟨q, hq⟩ : ∃ q, ys[k]? = some q := ⟨_, List.getElem?_eq_getElem (by omega)⟩
      have g1 := (hK.cell (p := ⟨b, off + k, none⟩) hb).trans (H.out.cellAt k p hp)
      have g2 := (hK.cell (p := ⟨b', off' + k, none⟩) hb').trans (H'.out.cellAt k q hq)
      have hkn : (k : Int) < n := by omega
      by_cases c2 : p = q
      · subst c2
        have R := Lib.hid (take_step ht hp hq)
        have c3 : (p != p) = false := by simp
        replace hK := Lib.hid hK
        clear ht hp hq
        go_wp2
        go_quiet (fail)
        go_wp2
        go_roundw
        case rel => exact ⟨k + 1, by omega, by go_num, R.out, hK.out.drewN nq⟩
        case measure => simp [intOf]; omega
      · have R := Lib.hid (take_apart hp hq c2)
        have c3 : (p != q) = true := by simpa using c2
        have c4 : (p == q) = false := by simpa using c2
        replace hK := Lib.hid hK
        clear ht hp hq
        go_wp2
        go_quiet (fail)
        go_wp2
        go_ret
        exact ⟨congrArg (fun b => Ending.returned (Value.bool b)) (decide_eq_false R.out).symm, hK.out.drewN _⟩
    · rw [List.take_of_length_le (by omega), List.take_of_length_le (by omega)] at ht
      have R := Lib.hid ht
      have hkn : ¬ (k : Int) < n := by omega
      replace hK := Lib.hid hK
      clear ht c1
      go_wp2
      go_ret
      exact ⟨congrArg (fun b => Ending.returned (Value.bool b)) (decide_eq_true R.out).symm, hK.out⟩
theorem L.same_none {w : World} (A A' : Option Addr) (c c' : Nat) :
    Calls Try.prog 13 #[.slice A 0 c, .slice A' 0 c'] w fun e w' => e = .returned (.bool true) ∧ Kept w w' := by
  go_enter Try.func13, Try.ntmps13
  go_wp2
  go_loopw [5] (fun i wr => i = .int .i64 0 ∧ Kept w wr) (fun _ _ => 0)
  case atStart => exact ⟨rfl, Kept.refl w⟩
  case round =>
    obtain ⟨rfl, hK⟩ := hrel
    replace hK := Lib.hid hK
    go_wp2
    go_ret
    exact ⟨rfl, hK.out⟩
theorem L.same_apart {w : World} (A A' : Option Addr) (n n' c c' : Nat) (hn : ¬ (n : Int) = n') :
    Calls Try.prog 13 #[.slice A n c, .slice A' n' c'] w fun e w' => e = .returned (.bool false) ∧ Kept w w' := by
  have h1 : ((n : Int) != n') = true := by simpa using hn
  have h2 : ((n : Int) == n') = false := by simpa using hn
  go_enter Try.func13, Try.ntmps13
  go_wp2
  go_ret
  exact ⟨rfl, Kept.refl w⟩
theorem L.same_any {w : World} {A A' : Option Addr} {n n' c c' : Nat} {xs ys : List Int} (h : Wo w A n c xs) (h' : Wo w A' n' c' ys) :
    Calls Try.prog 13 #[.slice A n c, .slice A' n' c'] w fun e w' => e = .returned (.bool (decide (xs = ys))) ∧ Below w.heap.size w w' := by
  by_cases c1 : n = n'
  · subst c1
    rcases Nat.eq_zero_or_pos n with rfl | hn
    · have e1 : xs = [] := List.eq_nil_of_length_eq_zero h.len
      have e2 : ys = [] := List.eq_nil_of_length_eq_zero h'.len
      subst e1; subst e2
      exact (L.same_none A A' c c').mono fun e w' h => ⟨h.1, h.2.below⟩
    · obtain ⟨b, off, rfl⟩ := h.place hn
      obtain ⟨b', off', rfl⟩ := h'.place hn
      exact (L.same_loop h h' hn).mono fun e w' h => ⟨h.1, h.2.below⟩
  · rw [decide_eq_false (fun e : xs = ys => c1 (by rw [← h.len, ← h'.len, e]))]
    exact (L.same_apart A A' n n' c c' (by omega)).mono fun e w' h => ⟨h.1, h.2.below⟩
theorem L.same_true {w : World} {A A' : Option Addr} {n n' c c' : Nat} {xs : List Int} (h : Wo w A n c xs) (h' : Wo w A' n' c' xs) :
    Calls Try.prog 13 #[.slice A n c, .slice A' n' c'] w fun e w' => e = .returned (.bool true) ∧ Below w.heap.size w w' := by
  have := L.same_any h h'
  rwa [decide_eq_true rfl] at this
theorem made_at (z : Value) (n j : Nat) (hj : j < n) : (madeCells #[z] n)[j]? = some z := by
  unfold madeCells
  simp [hj, Nat.mod_one]
theorem Ow.made (e : TypeId) (k : IntKind) (w : World) (m : Nat) (hm : m ≤ maxLen) : Ow e k w.heap.size w.heap.size 0 m [] (w.alloc (.cells (madeCells #[.int k 0] m) e)) :=
  Ow.mk' (Nat.le_refl _) (Nat.zero_le _) hm rfl _ (heap_alloc_last _ _) (by simp [size_madeCells]) rfl
theorem Ow.full (e : TypeId) (k : IntKind) (w : World) (m : Nat) (hm : m ≤ maxLen) : Ow e k w.heap.size w.heap.size m m (List.replicate m 0) (w.alloc (.cells (madeCells #[.int k 0] m) e)) := by
  refine Ow.mk' (Nat.le_refl _) (Nat.le_refl _) hm (by simp) _ (heap_alloc_last _ _) (by simp [size_madeCells]) ?_
  apply List.ext_getElem
  · simp [size_madeCells]
  · intro i h1 h2
    have := made_at (.int k 0) m i (by simpa using h2)
    rw [Array.getElem?_eq_getElem (by simp [size_madeCells]; simpa using h2)] at this
    simp only [List.getElem_take, Array.getElem_toList, List.getElem_map, List.getElem_replicate]
    exact Option.some.inj this
theorem Rw.one {k : IntKind} {L : Int} {w : World} {g : Nat} {x : Int} {t : TypeId} (h : Has g #[.int k x] t w) (h0 : 0 ≤ x) (h1 : x < L) : Rw k L w (some ⟨g, 0, none⟩) 1 1 [x] :=
  ⟨rfl, Nat.le_refl _, by simp [maxLen], by simp, by simpa using ⟨h0, h1⟩, fun ad e j y hy => by
    cases e
    match j, hy with
    | 0, hy => simp at hy; subst hy; exact h.cell 0 _ rfl⟩
theorem L.four_at (x : Int) (j : Nat) (hj : j < 4) : (L.four x)[j]? = some (x / 2 ^ (8 * j) % 256) := by
  match j, hj with
  | 0, _ => simp [L.four]
  | 1, _ => rfl
  | 2, _ => rfl
  | 3, _ => rfl
theorem L.four_step (x : Int) (j : Nat) (hj : j < 4) : (L.four x).take j ++ [x / 2 ^ (8 * j) % 256] = (L.four x).take (j + 1) := by
  rw [List.take_add_one, L.four_at x j hj]; rfl
theorem L.four_all (x : Int) : (L.four x).take 4 = L.four x := rfl
end Go.Proofs.Ytpfgmfiegnkocaa
