/-
  The document's memory: the contracts of SetByte, Place, Words.
-/
import Derived.Test.YtpfgmfiegnkocaaRm0
namespace Go.Proofs.Ytpfgmfiegnkocaa
open Go.RowKit
set_option linter.unusedVariables false
set_option linter.unusedSimpArgs false
set_option maxRecDepth 100000
theorem RMem.setByte {D C : Nat} {ws : List Int} {w : World} (h : RMem D C ws w) (a x : Int) (h0 : 0 ≤ a) (hj : (a / 4).toNat < ws.length) (x0 : 0 ≤ x) (x1 : x < 256) :
    RMem D C (ws.set (a / 4).toNat (M.mix ws[(a / 4).toNat] a x)) (w.setCell ⟨C, a.toNat, none⟩ (.int .u8 x)) := by
  obtain ⟨cs, h3, h4, h5⟩ := h.has
  have hr := h.rng _ (List.getElem_mem hj)
  have hm := M.mix_range ws[(a / 4).toNat] a x h0 x0 x1 hr.1 hr.2
  refine ⟨by simpa using h.len, fun y hy => ?_, h.ne, ?_, _, h3.set _ _, by rw [List.length_set]; simpa using h4, fun i y hi j hj4 => ?_⟩
  · rcases mem_set hy with hy | rfl
    · exact h.rng y hy
    · exact hm
  · rw [List.length_set]; exact h.box.other h.ne _
  · rw [List.getElem?_set] at hi
    by_cases c : (a / 4).toNat = i
    · subst c
      rw [if_pos rfl, if_pos hj] at hi
      cases hi
      rw [M.mix_byte _ _ _ _ hj4 h0 x0 x1 hr.1 hr.2]
      by_cases c2 : a % 4 = j
      · rw [if_pos c2, show 4 * (a / 4).toNat + j = a.toNat by omega, Array.getElem?_setIfInBounds_self_of_lt (by omega)]
      · rw [if_neg c2, Array.getElem?_setIfInBounds_ne (by omega)]
        exact h5 _ _ (List.getElem?_eq_getElem hj) j hj4
    · rw [if_neg c] at hi
      rw [Array.getElem?_setIfInBounds_ne (by omega)]
      exact h5 i y hi j hj4
theorem R.place_no {D C : Nat} {ws : List Int} {w : World} (h : RMem D C ws w) (k : Int) (A : Option Addr) (n c : Nat) (hn : n ≤ maxLen) (k0 : -9223372036854775808 ≤ k) (k1 : k ≤ 9223372036854775807) (hf : k < 0 ∨ (ws.length : Int) < k + n) :
    Calls Try.prog 30 #[.pointer (some ⟨D, 0, none⟩), .int .i64 k, .slice A n c] w fun e w' => e = .returned (.int .i64 11) ∧ w = w' := by
  have hc := h.sl
  have hl := h.len
  unfold maxLen at hn
  have hn1 : (n : Int) ≤ 9223372036854775807 := by omega
  clear h
  generalize ws.length = N at *
  rcases Int.lt_or_le k 0 with h | h
  · go_enter Try.func30, Try.ntmps30
    go_wp2
    go_ret
    exact ⟨rfl, rfl⟩
  · have h2 : ¬ k < 0 := by omega
    have h3 : decide (k < 0) = false := decide_eq_false h2
    rcases Int.lt_or_le (N : Int) k with h4 | h4
    · clear hf
      go_enter Try.func30, Try.ntmps30
      go_wp2
      go_ret
      exact ⟨rfl, rfl⟩
    · have h1 : (N : Int) - k < n := by omega
      have h5 : decide ((N : Int) < k) = false := decide_eq_false (by omega)
      clear hf
      go_enter Try.func30, Try.ntmps30
      go_wp2
      go_ret
      exact ⟨rfl, rfl⟩
theorem M.placed_none (ws : List Int) (k : Nat) : M.placed ws k [] = ws := by unfold M.placed; simp
theorem M.placed_step (ws xs : List Int) (k j : Nat) (x : Int) (hk : k + xs.length ≤ ws.length) (hx : xs[j]? = some x) : (M.placed ws k (xs.take j)).set (k + j) x = M.placed ws k (xs.take (j + 1)) := by
  have hj : j < xs.length := by
    rcases Nat.lt_or_ge j xs.length with h1 | h1
    · exact h1
    · rw [List.getElem?_eq_none h1] at hx; cases hx
  have t1 : (xs.take j).length = j := by simp; omega
  have t2 : (xs.take (j + 1)).length = j + 1 := by simp; omega
  apply List.ext_getElem?
  intro i
  rw [List.getElem?_set]
  by_cases c1 : k + j = i
  · subst c1
    rw [if_pos rfl, if_pos (by rw [M.placed_len _ _ _ (by omega)]; omega), M.placed_in _ _ _ _ (by omega) (by omega) (by omega), List.getElem?_take, if_pos (by omega), show k + j - k = j by omega, hx]
  · rw [if_neg c1]
    by_cases c2 : k ≤ i ∧ i < k + j
    · rw [M.placed_in _ _ _ _ (by omega) c2.1 (by omega), M.placed_in _ _ _ _ (by omega) c2.1 (by omega), List.getElem?_take, List.getElem?_take, if_pos (by omega), if_pos (by omega)]
    · rw [M.placed_out _ _ _ _ (by omega) (by omega), M.placed_out _ _ _ _ (by omega) (by omega)]
set_option maxRecDepth 100000 in
theorem R.place_loop {D C : Nat} {ws : List Int} {w : World} (h : RMem D C ws w) (k : Nat) (b off n c : Nat) (xs : List Int) (hx : Ws w (some ⟨b, off, none⟩) n c xs) (hn : 0 < n) (hb : b ≠ C) (hf : k + n ≤ ws.length) :
    Calls Try.prog 30 #[.pointer (some ⟨D, 0, none⟩), .int .i64 k, .slice (some ⟨b, off, none⟩) n c] w fun e w' => e = .returned (.int .i64 0) ∧ RMem D C (M.placed ws k xs) w' ∧ But C w w' := by
  have hc := h.sl
  have hl := h.len
  have hxl := hx.len
  have hX := Lib.hid hx
  have hR := Lib.hid h
  have h2 : ¬ (k : Int) < 0 := by omega
  have h3 : decide ((k : Int) < 0) = false := decide_eq_false h2
  have hl' : (M.placed ws k xs).length = ws.length := by unfold M.placed; simp; omega
  generalize hN : ws.length = N at *
  have h4 : decide ((N : Int) < k) = false := decide_eq_false (by omega)
  have h5 : (n : Int) ≤ (N : Int) - k := by omega
  have h6 : ¬ (N : Int) < k := by omega
  have h7 : (k : Int) ≤ N := by omega
  clear h hx
  go_enter Try.func30, Try.ntmps30
  go_wp2
  go_loopw [8] (fun i wr => ∃ j : Nat, j ≤ n ∧ i = .int .i64 j ∧ RMem D C (M.placed ws k (xs.take j)) wr ∧ But C w wr) (fun i _ => n - (intOf i).toNat)
  case atStart => exact ⟨0, Nat.zero_le _, rfl, by rw [List.take_zero, M.placed_none]; exact hR.out, But.refl _ _⟩
  case round =>
    obtain ⟨j, hj, rfl, hRr, hB⟩ := hrel
    by_cases d1 : j < n
    · have d2 : (j : Int) < n := by omega
      obtain ⟨x, hxj⟩ : ∃ x, xs[j]? = some x := ⟨_, List.getElem?_eq_getElem (by omega)⟩
      have hr := hX.out.rng x (List.mem_of_getElem? hxj)
      have g1 := (hX.out.but hB (fun ad e _ => by cases e; exact hb)).cellAt j x hxj
      have hlen : k + j < (M.placed ws k (xs.take j)).length := by unfold M.placed; simp; omega
      have G := R.set_any hRr (k + j) hlen x hr.1 hr.2
      rw [M.placed_step ws xs k j x (by omega) hxj, show (((k + j : Nat)) : Int) = (k : Int) + j by omega] at G
      replace hB := Lib.hid hB
      clear hRr hxj hr hlen
      go_wp2_with (go_at_call 48; refine G.mono ?_; rintro e w2 ⟨rfl, hR2, hB2⟩)
      go_roundw
      case rel => exact ⟨j + 1, by omega, by go_num, hR2, hB.out.trans hB2⟩
      case measure => simp [intOf]; omega
    · have d2 : ¬ (j : Int) < n := by omega
      rw [List.take_of_length_le (by omega)] at hRr
      replace hRr := Lib.hid hRr
      replace hB := Lib.hid hB
      go_wp2
      go_ret
      exact ⟨rfl, hRr.out, hB.out⟩
set_option maxRecDepth 100000 in
theorem R.place_none {D C : Nat} {ws : List Int} {w : World} (h : RMem D C ws w) (k : Nat) (A : Option Addr) (c : Nat) (hf : k ≤ ws.length) :
    Calls Try.prog 30 #[.pointer (some ⟨D, 0, none⟩), .int .i64 k, .slice A 0 c] w fun e w' => e = .returned (.int .i64 0) ∧ RMem D C ws w' ∧ But C w w' := by
  have hc := h.sl
  have hl := h.len
  have hR := Lib.hid h
  have h2 : ¬ (k : Int) < 0 := by omega
  have h3 : decide ((k : Int) < 0) = false := decide_eq_false h2
  generalize hN : ws.length = N at *
  have h4 : decide ((N : Int) < k) = false := decide_eq_false (by omega)
  have h5 : (0 : Int) ≤ (N : Int) - k := by omega
  have h6 : ¬ (N : Int) < k := by omega
  have h7 : (k : Int) ≤ N := by omega
  clear h
  go_enter Try.func30, Try.ntmps30
  go_wp2
  go_loopw [8] (fun i wr => i = .int .i64 0 ∧ wr = w) (fun _ _ => 0)
  case atStart => exact ⟨rfl, rfl⟩
  case round =>
    obtain ⟨rfl, rfl⟩ := hrel
    go_wp2
    go_ret
    exact ⟨rfl, hR.out, But.refl _ _⟩
theorem R.place_yes {D C : Nat} {ws : List Int} {w : World} (h : RMem D C ws w) (k : Nat) (A : Option Addr) (n c : Nat) (xs : List Int) (hx : Ws w A n c xs) (hb : ∀ ad, A = some ad → 0 < n → ad.block ≠ C) (hf : k + n ≤ ws.length) :
    Calls Try.prog 30 #[.pointer (some ⟨D, 0, none⟩), .int .i64 k, .slice A n c] w fun e w' => e = .returned (.int .i64 0) ∧ RMem D C (M.placed ws k xs) w' ∧ But C w w' := by
  rcases Nat.eq_zero_or_pos n with rfl | hn
  · have e1 : xs = [] := List.eq_nil_of_length_eq_zero hx.len
    subst e1
    rw [M.placed_none]
    exact R.place_none h k A c (by omega)
  · cases A with
    | none => have := hx.nil rfl; have := hx.le; omega
    | some ad =>
      obtain ⟨b, off, rfl⟩ := hx.addr hn
      exact R.place_loop h k b off n c xs hx hn (hb _ rfl hn) hf
theorem Own.to {base g n cap : Nat} {xs : List Int} {w w' : World} (h : Own base g n cap xs w) (hb : w'.heap[g]? = w.heap[g]?) : Own base g n cap xs w' := by
  obtain ⟨h1, h2⟩ := h
  refine ⟨h1, ?_⟩
  rcases h2 with ⟨h2, _⟩ | ⟨g', cap', cur, hv, h3, hh, h4⟩
  · cases h2
  · cases hv
    exact Or.inr ⟨g, cap, cur, rfl, h3, hb.trans hh, h4⟩
theorem Own.lt {base g n cap : Nat} {xs : List Int} {w : World} (h : Own base g n cap xs w) : base ≤ g ∧ g < w.heap.size := by
  obtain ⟨h1, _, _, _, cur, hh, _⟩ := h.has
  exact ⟨h1, hh.lt⟩
set_option maxRecDepth 100000 in
theorem R.words_any {D C : Nat} {ws : List Int} {w : World} (h : RMem D C ws w) :
    Calls Try.prog 17 #[.pointer (some ⟨D, 0, none⟩)] w fun e w' => ∃ g cap, e = .returned (.slice (some ⟨g, 0, none⟩) ws.length cap) ∧ Ws w' (some ⟨g, 0, none⟩) ws.length cap ws ∧ Below w.heap.size w w' := by
  have hl := h.len
  have hR := Lib.hid h
  generalize hN : ws.length = N at *
  clear h
  go_enter Try.func17, Try.ntmps17
  go_wp2
  go_loopw [3, 4] (fun v i wr => ∃ k g cap : Nat, k ≤ N ∧ i = .int .i64 k ∧ v = .slice (some ⟨g, 0, none⟩) k cap ∧ Own w.heap.size g k cap (ws.take k) wr ∧ Below w.heap.size w wr) (fun _ i _ => N - (intOf i).toNat)
  case atStart => exact ⟨0, w.heap.size, 0, Nat.zero_le _, rfl, rfl, Own.new w _ (Nat.le_refl _), (Below.refl _ _).alloc (Nat.le_refl _) _⟩
  case round =>
    obtain ⟨k, g, cap, hk, rfl, rfl, hO, hb⟩ := hrel
    have hRr := hR.out.below hb
    have g1 := hRr.sl
    rw [hN] at g1
    have hN0 : (N : Int) ≤ 4096 := by omega
    by_cases d1 : k < N
    · have d2 : (k : Int) < N := by omega
      have G := R.get_any hRr k (by omega)
      have hr := hRr.rng _ (List.getElem_mem (show k < ws.length by omega))
      have ht : ws.take k ++ [ws[k]] = ws.take (k + 1) := by rw [List.take_add_one, List.getElem?_eq_getElem (by omega)]; rfl
      generalize ws[k] = x at *
      have hOl := hO.lt
      replace hO := Lib.hid hO
      replace hb := Lib.hid hb
      clear hRr
      go_wp2_with (fail)
      refine G.mono ?_; rintro e w2 ⟨rfl, hK2⟩
      have hN2 : w.heap.size ≤ w2.heap.size := Nat.le_trans hb.out.size hK2.size
      have hA := (Kept.refl w2).alloc #[Value.int .u32 x] 39
      have hY := Lib.hid (Ws.one (Has.new #[Value.int .u32 x] 39 w2) hr.1 hr.2)
      have hO2 := Lib.hid (hO.out.to (w' := w2.alloc (.cells #[Value.int .u32 x] 39)) ((hK2.trans hA).below.block g hOl.2))
      have hb2 := Lib.hid (below_kept hb.out (hK2.trans hA) (by have := hb.out.size; omega))
      have hN3 : w.heap.size ≤ (w2.alloc (.cells #[Value.int .u32 x] 39)).heap.size := hb2.out.size
      replace hN3 := Lib.hid hN3
      clear hO hb hK2 hA G
      go_wp2_with (with_reducible refine append_words (o := ⟨some 21, _, _, _, _, _⟩) rfl (.tmp 16) (.tmp 20) rfl w.heap.size g k cap (ws.take k) rfl hO2.out _ 1 1 [x] rfl hY.out (by omega) hN3.out ?_; intro g' cap' w3 hO3 hG3; rw [ht] at hO3; replace hO3 := Lib.hid hO3; replace hG3 := Lib.hid (hb2.out.grown hG3 hN3.out (fun k e => by cases e; exact hOl.1)))
      go_roundw
      case rel => exact ⟨k + 1, g', cap', by omega, by go_num, rfl, hO3.out, hG3.out⟩
      case measure => simp [intOf]; omega
    · have d2 : ¬ (k : Int) < N := by omega
      rw [List.take_of_length_le (by omega)] at hO
      obtain rfl : k = N := by omega
      have hW := Lib.hid (hO.ws hR.out.rng)
      replace hb := Lib.hid hb
      clear hO hRr
      go_wp2
      go_ret
      exact ⟨g, cap, rfl, hW.out, hb.out⟩
end Go.Proofs.Ytpfgmfiegnkocaa
