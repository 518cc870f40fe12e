/-
  The contracts of rivetref05.Same, of the document's Same and Fit; halves of words.
-/
import Derived.Test.YtpfgmfiegnkocaaCh2
namespace Go.Proofs.Ytpfgmfiegnkocaa
open Go.RowKit
set_option linter.unusedVariables false
set_option linter.unusedSimpArgs false
set_option maxRecDepth 100000
theorem Ch.and_low (x : Int) (x0 : 0 ≤ x) (x1 : x < 4294967296) : bits .and .u32 x 65535 = x % 65536 := by
  obtain ⟨X, rfl⟩ := Int.eq_ofNat_of_zero_le x0
  rw [show (65535 : Int) = ((65535 : Nat) : Int) from rfl, u32_and_nat _ _ (by omega) (by omega), show (65535 : Nat) = 2 ^ 16 - 1 from rfl, Nat.and_two_pow_sub_one_eq_mod]
  omega
theorem Ch.or_join (v h : Int) (v0 : 0 ≤ v) (v1 : v ≤ 65535) (h0 : 0 ≤ h) (h1 : h < 65536) : bits .or .u32 (v * 65536) h = v * 65536 + h := by
  obtain ⟨V, rfl⟩ := Int.eq_ofNat_of_zero_le v0
  obtain ⟨H, rfl⟩ := Int.eq_ofNat_of_zero_le h0
  rw [show ((V : Int) * 65536) = ((V * 65536 : Nat) : Int) by omega, u32_or_nat _ _ (by omega) (by omega)]
  have e : V * 65536 ||| H = V * 65536 + H := by
    have := Nat.shiftLeft_add_eq_or_of_lt (i := 16) (b := H) (by omega) V
    rw [Nat.shiftLeft_eq] at this
    exact this.symm
  rw [e]; omega
theorem Ch.not_low (x : Int) (x0 : 0 ≤ x) (x1 : x < 4294967296) : bits .andNot .u32 x 65535 = x / 65536 * 65536 := by
  obtain ⟨X, rfl⟩ := Int.eq_ofNat_of_zero_le x0
  rw [show (65535 : Int) = ((65535 : Nat) : Int) from rfl, u32_andNot_nat _ _ (by omega) (by omega)]
  have e : X &&& (4294967295 - 65535) = X / 65536 * 65536 := by
    apply Nat.eq_of_testBit_eq
    intro i
    rw [Nat.testBit_and, show (4294967295 - 65535 : Nat) = (2 ^ 16 - 1) <<< 16 from rfl, Nat.testBit_shiftLeft, Nat.testBit_two_pow_sub_one, show X / 65536 * 65536 = (X >>> 16) <<< 16 by rw [Nat.shiftRight_eq_div_pow, Nat.shiftLeft_eq], Nat.testBit_shiftLeft, Nat.testBit_shiftRight]
    by_cases c1 : 16 ≤ i
    · rw [show 16 + (i - 16) = i by omega]
      by_cases c2 : i < 32
      · simp [c1, show i - 16 < 16 by omega]
      · have : X.testBit i = false := Nat.testBit_lt_two_pow (Nat.lt_of_lt_of_le (show X < 2 ^ 32 by omega) (Nat.pow_le_pow_right (by omega) (by omega)))
        simp [this]
    · simp [c1]
  rw [e]; omega
theorem Ch.not_rng (x q : Int) (x0 : 0 ≤ x) (x1 : x < 4294967296) (q0 : 0 ≤ q) (q1 : q < 4294967296) : 0 ≤ bits .andNot .u32 x q ∧ bits .andNot .u32 x q < 4294967296 := by
  rw [u32_andNot x q x0 x1 q0 q1]
  have := Nat.and_le_left (n := x.toNat) (m := 4294967295 - q.toNat)
  omega
theorem Ch.take_step {xs ys : List Int} {k : Nat} {p : Int} (h : xs.take k = ys.take k) (hx : xs[k]? = some p) (hy : ys[k]? = some p) : xs.take (k + 1) = ys.take (k + 1) := by
  rw [List.take_add_one, List.take_add_one, h, hx, hy]
theorem Ch.take_apart {xs ys : List Int} {k : Nat} {p q : Int} (hx : xs[k]? = some p) (hy : ys[k]? = some q) (hpq : p ≠ q) : xs ≠ ys := by
  intro e
  rw [e, hy] at hx
  cases hx
  exact hpq rfl
set_option maxRecDepth 100000 in
theorem Ch.same5_loop {w : World} {b off b' off' n c c' : Nat} {xs ys : List Int} (h : Rg .u32 w (some ⟨b, off, none⟩) n c xs) (h' : Rg .u32 w (some ⟨b', off', none⟩) n c' ys) (hn : 0 < n) :
    Calls Try.prog 13 #[.slice (some ⟨b, off, none⟩) n c, .slice (some ⟨b', off', none⟩) n c'] w fun e w' => e = .returned (.bool (decide (xs = ys))) ∧ Kept w w' := by
  have hm := h.max
  have hle := h.le
  unfold maxLen at hm
  have hn1 : (n : Int) ≤ 9223372036854775807 := by omega
  have hb := h.lt hn
  have hb' := h'.lt hn
  have hl := h.len
  have hl' := h'.len
  have H := Lib.hid h
  have H' := Lib.hid h'
  clear h h' hm
  go_enter Try.func13, Try.ntmps13
  go_wp2
  go_loopw [5] (fun i wr => ∃ k : Nat, k ≤ n ∧ i = .int .i64 k ∧ xs.take k = ys.take k ∧ Kept w wr) (fun i _ => n - (intOf i).toNat)
  case atStart => exact ⟨0, Nat.zero_le _, rfl, rfl, Kept.refl w⟩
  case round =>
    obtain ⟨k, hk, rfl, ht, hK⟩ := hrel
    by_cases c1 : k < n
    · obtain ⟨p, hp⟩ : ∃ p, xs[k]? = some p := ⟨_, List.getElem?_eq_getElem (by omega)⟩
      obtain ⟨q, hq⟩ : ∃ q, ys[k]? = some q := ⟨_, List.getElem?_eq_getElem (by omega)⟩
      have g1 := (hK.cell (p := ⟨b, off + k, none⟩) hb).trans (H.out.cellAt k p hp)
      have g2 := (hK.cell (p := ⟨b', off' + k, none⟩) hb').trans (H'.out.cellAt k q hq)
      have hkn : (k : Int) < n := by omega
      by_cases c2 : p = q
      · subst c2
        have R := Lib.hid (Ch.take_step ht hp hq)
        have c3 : (p != p) = false := by simp
        replace hK := Lib.hid hK
        clear ht hp hq
        go_wp2
        go_quiet (fail)
        go_wp2
        go_roundw
        case rel => exact ⟨k + 1, by omega, by go_num, R.out, hK.out.drewN nq⟩
        case measure => simp [intOf]; omega
      · have R := Lib.hid (Ch.take_apart hp hq c2)
        have c3 : (p != q) = true := by simpa using c2
        have c4 : (p == q) = false := by simpa using c2
        replace hK := Lib.hid hK
        clear ht hp hq
        go_wp2
        go_quiet (fail)
        go_wp2
        go_ret
        exact ⟨retB (decide_eq_false R.out).symm, hK.out.drewN _⟩
    · rw [List.take_of_length_le (by omega), List.take_of_length_le (by omega)] at ht
      have R := Lib.hid ht
      have hkn : ¬ (k : Int) < n := by omega
      replace hK := Lib.hid hK
      clear ht c1
      go_wp2
      go_ret
      exact ⟨retB (decide_eq_true R.out).symm, hK.out⟩
theorem Ch.same5_none {w : World} (A A' : Option Addr) (c c' : Nat) :
    Calls Try.prog 13 #[.slice A 0 c, .slice A' 0 c'] w fun e w' => e = .returned (.bool true) ∧ Kept w w' := by
  go_enter Try.func13, Try.ntmps13
  go_wp2
  go_loopw [5] (fun i wr => i = .int .i64 0 ∧ Kept w wr) (fun _ _ => 0)
  case atStart => exact ⟨rfl, Kept.refl w⟩
  case round =>
    obtain ⟨rfl, hK⟩ := hrel
    replace hK := Lib.hid hK
    go_wp2
    go_ret
    exact ⟨rfl, hK.out⟩
theorem Ch.same5_apart {w : World} (A A' : Option Addr) (n n' c c' : Nat) (hn : ¬ (n : Int) = n') :
    Calls Try.prog 13 #[.slice A n c, .slice A' n' c'] w fun e w' => e = .returned (.bool false) ∧ Kept w w' := by
  have h1 : ((n : Int) != n') = true := by simpa using hn
  have h2 : ((n : Int) == n') = false := by simpa using hn
  go_enter Try.func13, Try.ntmps13
  go_wp2
  go_ret
  exact ⟨rfl, Kept.refl w⟩
theorem Ch.same5_any {w : World} {A A' : Option Addr} {n n' c c' : Nat} {xs ys : List Int} (h : Rg .u32 w A n c xs) (h' : Rg .u32 w A' n' c' ys) :
    Calls Try.prog 13 #[.slice A n c, .slice A' n' c'] w fun e w' => e = .returned (.bool (decide (xs = ys))) ∧ Below w.heap.size w w' := by
  by_cases c1 : n = n'
  · subst c1
    rcases Nat.eq_zero_or_pos n with rfl | hn
    · have e1 : xs = [] := List.eq_nil_of_length_eq_zero h.len
      have e2 : ys = [] := List.eq_nil_of_length_eq_zero h'.len
      subst e1; subst e2
      exact (Ch.same5_none A A' c c').mono fun e w' h => ⟨h.1, h.2.below⟩
    · obtain ⟨b, off, rfl⟩ := h.place hn
      obtain ⟨b', off', rfl⟩ := h'.place hn
      exact (Ch.same5_loop h h' hn).mono fun e w' h => ⟨h.1, h.2.below⟩
  · rw [decide_eq_false (fun e : xs = ys => c1 (by rw [← h.len, ← h'.len, e]))]
    exact (Ch.same5_apart A A' n n' c c' (by omega)).mono fun e w' h => ⟨h.1, h.2.below⟩
theorem Ch.same5_true {w : World} {A A' : Option Addr} {n n' c c' : Nat} {xs : List Int} (h : Rg .u32 w A n c xs) (h' : Rg .u32 w A' n' c' xs) :
    Calls Try.prog 13 #[.slice A n c, .slice A' n' c'] w fun e w' => e = .returned (.bool true) ∧ Below w.heap.size w w' := by
  have := Ch.same5_any h h'
  rwa [decide_eq_true rfl] at this
/-- the sites of the first k words: each whose bit is set -/
def Ch.fit (bs : List Int) : Nat → List Int
  | 0 => []
  | k + 1 => Ch.fit bs k ++ (if bits .and .u8 (bs.getD k 0) 1 = 1 then [(k : Int)] else [])
theorem Ch.rises_snoc {m : Nat} {ss : List Int} {x : Int} (h : Ch.Rises m ss) (h1 : Ch.prev ss ss.length < x) (h2 : x < (m : Int)) (h3 : x ≤ 65534) : Ch.Rises m (ss ++ [x]) := fun k hk => by
  rw [List.length_append] at hk
  simp at hk
  unfold Ch.OkAt
  rw [Ch.prev_append ss _ k (by omega)]
  rcases Nat.lt_or_ge k ss.length with c | c
  · rw [Ch.getD_left _ _ _ c]
    exact h k c
  · obtain rfl : k = ss.length := by omega
    rw [Ch.getD_last]
    exact ⟨h1, h2, h3⟩
theorem Ch.prev_snoc (ss : List Int) (x : Int) : Ch.prev (ss ++ [x]) (ss ++ [x]).length = x := by
  rw [List.length_append]
  exact Ch.getD_last ss x
theorem Ch.fit_rises (bs : List Int) (m : Nat) (hm : m ≤ 65535) : ∀ k, k ≤ m → Ch.Rises m (Ch.fit bs k) ∧ Ch.prev (Ch.fit bs k) (Ch.fit bs k).length < (k : Int)
  | 0, _ => ⟨fun k hk => by simp [Ch.fit] at hk, by show (-1 : Int) < 0; omega⟩
  | k + 1, hk => by
    obtain ⟨h1, h2⟩ := Ch.fit_rises bs m hm k (by omega)
    show Ch.Rises m (Ch.fit bs k ++ _) ∧ Ch.prev (Ch.fit bs k ++ _) (Ch.fit bs k ++ _).length < _
    split
    · exact ⟨Ch.rises_snoc h1 h2 (by omega) (by omega), by rw [Ch.prev_snoc]; omega⟩
    · rw [List.append_nil]
      exact ⟨h1, by omega⟩
theorem Ch.fit_len (bs : List Int) : ∀ k, (Ch.fit bs k).length ≤ k
  | 0 => Nat.le_refl _
  | k + 1 => by
    have := Ch.fit_len bs k
    show (Ch.fit bs k ++ _).length ≤ _
    split
    · simp; omega
    · simp; omega
set_option maxRecDepth 100000 in
theorem Ch.fit_any {w : World} {A : Option Addr} {n c : Nat} {bs : List Int} (h : By w A n c bs) (m : Nat) (hm : m ≤ 1000000) :
    Calls Try.prog 34 #[.slice A n c, .int .i64 m] w fun e w' => ∃ g cap, e = .returned (.slice (some ⟨g, 0, none⟩) (Ch.fit bs (min m n)).length cap) ∧ Ow 3 .i64 w.heap.size g (Ch.fit bs (min m n)).length cap (Ch.fit bs (min m n)) w' ∧ Below w.heap.size w w' := by
  have hl := h.len
  have hle := h.le
  have hmx := h.max
  unfold maxLen at hmx
  have hn1 : (n : Int) ≤ 9223372036854775807 := by omega
  have hA : n = 0 ∨ ∃ b off, A = some ⟨b, off, none⟩ := (Nat.eq_zero_or_pos n).imp_right h.place
  have H := Lib.hid h
  clear h hmx
  go_enter Try.func34, Try.ntmps34
  go_wp2_with (fail)
  have hO := Lib.hid (Ow.new 3 .i64 w w.heap.size (Nat.le_refl _))
  have hB := Lib.hid (((Kept.refl w).alloc #[] 3).below)
  generalize w.alloc (.cells #[] 3) = w1 at *
  go_loopw [5, 6] (fun b i wr => ∃ k g cap : Nat, k ≤ min m n ∧ i = .int .i64 k ∧ b = .slice (some ⟨g, 0, none⟩) (Ch.fit bs k).length cap ∧ Ow 3 .i64 w.heap.size g (Ch.fit bs k).length cap (Ch.fit bs k) wr ∧ Below w.heap.size w wr) (fun _ i _ => n - (intOf i).toNat)
  case atStart => exact ⟨0, w.heap.size, 0, Nat.zero_le _, rfl, rfl, hO.out, hB.out⟩
  case round =>
    clear hO hB
    obtain ⟨k, g, cap, hk, rfl, rfl, hO, hB⟩ := hrel
    by_cases c1 : k < m
    · have e1 : (k : Int) < m := by omega
      by_cases c2 : k < n
      · have e2 : (k : Int) < n := by omega
        rcases hA with h0 | ⟨b, off, rfl⟩
        · omega
        have g1 := (hB.cell (p := ⟨b, off + k, none⟩) (H.out.lt (by omega))).trans (H.out.at k c2)
        have hfl := Ch.fit_len bs k
        by_cases c3 : bits .and .u8 (bs.getD k 0) 1 = 1
        · have R : Hid (Ch.fit bs k ++ [(k : Int)] = Ch.fit bs (k + 1)) := Lib.hid (by show _ = Ch.fit bs k ++ _; rw [if_pos c3])
          have R2 : Hid ((Ch.fit bs k).length + 1 = (Ch.fit bs (k + 1)).length) := Lib.hid (by rw [← R.out]; simp)
          have c4 : (bits .and .u8 (bs.getD k 0) 1 == 1) = true := by simpa using c3
          have hg := hO.has.1
          have hs0 : w.heap.size ≤ (wr.alloc (.cells #[.int .i64 (k : Int)] 3)).heap.size := by have := hB.size; simp; omega
          have hY := Lib.hid (Rg.one (Has.new #[.int .i64 (k : Int)] 3 wr))
          have hA1 := ((Kept.refl wr).alloc #[.int .i64 (k : Int)] 3).below
          replace hO := Lib.hid (hO.below hA1)
          replace hB := Lib.hid (hB.trans (hA1.mono hB.size))
          generalize bs.getD k 0 = x at *
          generalize Ch.fit bs k = fk at *
          clear hA1
          go_wp2_with (with_reducible refine append_rg (o := ⟨some 28, _, _, _, _, _⟩) Try.underlying23 Ch.info64 (by omega) rfl (.tmp 25) (.tmp 27) rfl w.heap.size g fk.length cap fk rfl hO.out _ 1 1 [(k : Int)] rfl hY.out (by omega) hs0 ?_; intro g3 cap3 w3 hO3 hG3)
          rw [R.out, R2.out] at hO3
          have hB3 := Lib.hid (hB.out.grown hG3 hs0 (fun q e => by cases e; exact hg))
          replace hO3 := Lib.hid hO3
          rw [R2.out]
          clear hG3 hO hB hY hs0 g1 c3 c4
          go_wp2
          go_roundw
          case rel => exact ⟨k + 1, g3, cap3, by omega, by go_num, rfl, hO3.out, hB3.out⟩
          case measure => simp [intOf]; omega
        · have R : Hid (Ch.fit bs k = Ch.fit bs (k + 1)) := Lib.hid (by show _ = Ch.fit bs k ++ _; rw [if_neg c3, List.append_nil])
          have c4 : (bits .and .u8 (bs.getD k 0) 1 == 1) = false := by simpa using c3
          replace hO := Lib.hid hO
          replace hB := Lib.hid hB
          rw [R.out] at hO ⊢
          generalize bs.getD k 0 = x at *
          go_wp2
          go_roundw
          case rel => exact ⟨k + 1, g, cap, by omega, by go_num, rfl, hO.out, hB.out⟩
          case measure => simp [intOf]; omega
      · have e2 : ¬ (k : Int) < n := by omega
        have hq := Lib.hid (show Ch.fit bs (min m n) = Ch.fit bs k by rw [show min m n = k by omega])
        replace hO := Lib.hid hO
        replace hB := Lib.hid hB
        generalize Ch.fit bs k = fk at *
        go_wp2
        go_ret
        rw [hq.out]
        exact ⟨g, cap, rfl, hO.out, hB.out⟩
    · have e1 : ¬ (k : Int) < m := by omega
      have hq := Lib.hid (show Ch.fit bs (min m n) = Ch.fit bs k by rw [show min m n = k by omega])
      replace hO := Lib.hid hO
      replace hB := Lib.hid hB
      generalize Ch.fit bs k = fk at *
      go_wp2
      go_ret
      rw [hq.out]
      exact ⟨g, cap, rfl, hO.out, hB.out⟩
end Go.Proofs.Ytpfgmfiegnkocaa
