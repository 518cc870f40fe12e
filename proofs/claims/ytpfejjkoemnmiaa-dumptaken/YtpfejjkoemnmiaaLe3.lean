/-
  The contracts of the document's Put; of Take, the program's and the document's.
-/
import Derived.Laws.BitsAllLaws
import Derived.Test.YtpfejjkoemnmiaaLe2
namespace Go.Proofs.Ytpfejjkoemnmiaa
open Go.RowKit
set_option linter.unusedVariables false
set_option linter.unusedSimpArgs false
set_option maxRecDepth 100000
theorem L.shift (x : Int) (k : Nat) : x / 2 ^ (8 * k) / 256 = x / 2 ^ (8 * (k + 1)) := by
  rw [Int.ediv_ediv_of_nonneg (Int.le_of_lt (Int.pow_pos (by decide))), show (256 : Int) = 2 ^ 8 from rfl, ← Int.pow_add, show 8 * k + 8 = 8 * (k + 1) by omega]
theorem L.bounds (x : Int) (k : Nat) (x0 : 0 ≤ x) (x1 : x < 4294967296) : 0 ≤ x / 2 ^ (8 * k) ∧ x / 2 ^ (8 * k) < 4294967296 := by
  have p : (0 : Int) < 2 ^ (8 * k) := Int.pow_pos (by decide)
  refine ⟨Int.ediv_nonneg x0 (Int.le_of_lt p), ?_⟩
  exact Int.lt_of_le_of_lt (Int.ediv_le_self _ x0) x1
/-- a word's lowest j bytes -/
def L.acc (bs : List Int) (p : Nat) : Nat → Int
  | 0 => 0
  | j + 1 => L.acc bs p j + bs.getD (p + j) 0 * 2 ^ (8 * j)
theorem L.acc_word (bs : List Int) (p : Nat) : L.acc bs p 4 = L.word bs p := by
  unfold L.word
  simp only [L.acc, Nat.add_zero]
  omega
theorem L.byt_getD {bs : List Int} (hb : L.Byt bs) (q : Nat) : 0 ≤ bs.getD q 0 ∧ bs.getD q 0 < 256 := by
  rw [List.getD_eq_getElem?_getD]
  cases h : bs[q]? with
  | none => simp
  | some x => exact hb x (List.mem_of_getElem? h)
theorem L.acc_rng (bs : List Int) (hb : L.Byt bs) (p : Nat) : ∀ j, j ≤ 4 → 0 ≤ L.acc bs p j ∧ L.acc bs p j < ((2 ^ (8 * j) : Nat) : Int) := by
  have k0 := L.byt_getD hb (p + 0)
  have k1 := L.byt_getD hb (p + 1)
  have k2 := L.byt_getD hb (p + 2)
  have k3 := L.byt_getD hb (p + 3)
  intro j hj
  match j, hj with
  | 0, _ => simp [L.acc]
  | 1, _ => simp only [L.acc]; omega
  | 2, _ => simp only [L.acc]; omega
  | 3, _ => simp only [L.acc]; omega
  | 4, _ => simp only [L.acc]; omega
theorem L.or_acc (a y : Int) (j : Nat) (hj : j < 4) (a0 : 0 ≤ a) (a1 : a < ((2 ^ (8 * j) : Nat) : Int)) (y0 : 0 ≤ y) (y1 : y < 256) : bits .or .u32 a (y * 2 ^ (8 * j) % 4294967296) = a + y * 2 ^ (8 * j) := by
  obtain ⟨A, rfl⟩ := Int.eq_ofNat_of_zero_le a0
  obtain ⟨Y, rfl⟩ := Int.eq_ofNat_of_zero_le y0
  have hp : 2 ^ (8 * j) ≤ 16777216 := Nat.pow_le_pow_right (n := 2) (by decide) (show 8 * j ≤ 24 by omega)
  have hp0 : 0 < 2 ^ (8 * j) := Nat.two_pow_pos _
  have e : ((Y : Int) * 2 ^ (8 * j)) = ((Y * 2 ^ (8 * j) : Nat) : Int) := by rw [Int.natCast_mul, Int.natCast_pow]; rfl
  have hA : A < 2 ^ (8 * j) := Int.ofNat_lt.1 a1
  have hm : Y * 2 ^ (8 * j) ≤ 255 * 16777216 := Nat.mul_le_mul (by omega) hp
  rw [e, Int.emod_eq_of_lt (by omega) (by omega)]
  rw [u32_or_nat _ _ (by omega) (by omega), Nat.or_comm, nat_join (8 * j) _ _ (Nat.mul_mod_left _ _) hA]
  omega
set_option maxRecDepth 100000 in
theorem L.wordAt_any {w : World} {b off n c : Nat} {bs : List Int} (h : By w (some ⟨b, off, none⟩) n c bs) (hn : n ≤ 1000000) (p : Nat) (hp : p + 4 ≤ n) :
    Calls Try.prog 81 #[.slice (some ⟨b, off, none⟩) n c, .int .i64 p] w fun e w' => e = .returned (.int .u32 (L.word bs p)) ∧ w = w' := by
  have hl := h.len
  have hle := h.le
  have hn1 : (n : Int) ≤ 1000000 := by omega
  have hp1 : (p : Int) + 4 ≤ n := by omega
  have hr := L.acc_rng bs h.rng p
  have hy := Lib.hid (L.byt_getD (bs := bs) h.rng)
  have H := Lib.hid h
  clear h
  rw [← L.acc_word]
  go_enter Try.func81, Try.ntmps81
  go_wp2
  go_loopw [5, 6, 7] (fun a _ i wr => ∃ j : Nat, j ≤ 4 ∧ i = .int .i64 j ∧ a = .int .u32 (L.acc bs p j) ∧ w = wr) (fun _ _ i _ => 4 - (intOf i).toNat)
  case atStart => exact ⟨0, Nat.zero_le _, rfl, rfl, rfl⟩
  case round =>
    obtain ⟨j, hj, rfl, rfl, rfl⟩ := hrel
    by_cases e1 : j < 4
    · have e2 : (j : Int) < 4 := by omega
      have g1 := H.out.cellAt (p + j) (bs.getD (p + j) 0) (by rw [List.getD_eq_getElem?_getD, List.getElem?_eq_getElem (show p + j < bs.length by omega)]; rfl)
      have hr1 := hr j hj
      have hy1 := hy.out (p + j)
      have R : Hid (bits .or .u32 (L.acc bs p j) (bs.getD (p + j) 0 * 2 ^ (8 * j) % 4294967296) = L.acc bs p (j + 1)) := Lib.hid (L.or_acc _ _ j e1 hr1.1 hr1.2 hy1.1 hy1.2)
      have hp2 : (p : Int) + j < n := by omega
      generalize bs.getD (p + j) 0 = y at *
      clear hr hr1 hy
      go_wp2
      go_roundw
      case rel => exact ⟨j + 1, by omega, by go_num, by rw [R.out], by trivial⟩
      case measure => simp [intOf]; omega
    · have e2 : ¬ (j : Int) < 4 := by omega
      obtain rfl : j = 4 := by omega
      clear hr hy
      go_wp2
      go_ret
      exact ⟨rfl, rfl⟩
theorem L.words_step (bs : List Int) (i n : Nat) (hi : i < n) : (L.words bs i ++ List.replicate (n - i) 0).set i (L.word bs (4 * i)) = L.words bs (i + 1) ++ List.replicate (n - (i + 1)) 0 := by
  have hl : (L.words bs i).length = i := by simp [L.words]
  rw [List.set_append_right _ _ (by omega), hl, Nat.sub_self, show n - i = (n - (i + 1)) + 1 by omega, List.replicate_succ, List.set_cons_zero]
  rw [show L.words bs (i + 1) = L.words bs i ++ [L.word bs (4 * i)] by simp [L.words, List.range_succ], List.append_assoc]
  rfl
theorem L.tk_no {bs : List Int} {n : Int} (h : n < 0 ∨ ((bs.length / 4 : Nat) : Int) < n) : L.tkE bs n = 3 ∧ L.tkW bs n = [] := by
  unfold L.tkE L.tkW
  rw [if_pos h, if_pos h]; exact ⟨rfl, rfl⟩
theorem L.tk_yes {bs : List Int} {n : Nat} (h : n ≤ bs.length / 4) : L.tkE bs n = 0 ∧ L.tkW bs n = L.words bs n := by
  unfold L.tkE L.tkW
  have h2 : ¬ ((n : Int) < 0 ∨ ((bs.length / 4 : Nat) : Int) < n) := by omega
  rw [if_neg h2, if_neg h2]; exact ⟨rfl, rfl⟩
theorem L.take_no {w : World} {A : Option Addr} {m c : Nat} (n : Int) (hm : m ≤ 1000000) (h : n < 0 ∨ ((m / 4 : Nat) : Int) < n) :
    Calls Try.prog 74 #[.slice A m c, .int .i64 n] w fun e w' => e = .returned (.tuple #[.slice none 0 0, .int .i64 3]) ∧ w = w' := by
  have hm1 : (m : Int) ≤ 1000000 := by omega
  by_cases c1 : n < 0
  · go_enter Try.func74, Try.ntmps74
    go_wp2
    go_ret2
    exact ⟨rfl, rfl⟩
  · have c2 : n > (m : Int) / 4 := by omega
    go_enter Try.func74, Try.ntmps74
    go_wp2
    go_ret2
    exact ⟨rfl, rfl⟩
set_option maxRecDepth 100000 in
theorem L.take_yes {w : World} {A : Option Addr} {m c : Nat} {bs : List Int} (h : By w A m c bs) (hm : m ≤ 1000000) (n : Nat) (hn : n ≤ m / 4) :
    Calls Try.prog 74 #[.slice A m c, .int .i64 n] w fun e w' => ∃ g, e = .returned (.tuple #[.slice (some ⟨g, 0, none⟩) n n, .int .i64 0]) ∧ Wo w' (some ⟨g, 0, none⟩) n n (L.words bs n) ∧ Below w.heap.size w w' := by
  have hl := h.len
  have hle := h.le
  have hm1 : (m : Int) ≤ 1000000 := by omega
  have hn1 : (n : Int) ≤ (m : Int) / 4 := by omega
  have hn0 : ¬ (n : Int) < 0 := by omega
  have hn2 : ¬ (n : Int) > (m : Int) / 4 := by omega
  have H := Lib.hid h
  have hA : n = 0 ∨ ∃ b off, A = some ⟨b, off, none⟩ := (Nat.eq_zero_or_pos n).imp_right (fun h0 => h.place (by omega))
  clear h
  go_enter Try.func74, Try.ntmps74
  go_wp2_with (with_reducible refine make_rows rfl (.tmp 17) (.tmp 17) 22 rfl 37 Try.underlying22 L.info32 n n _ _ rfl rfl rfl rfl (Nat.le_refl _) (by omega) (by unfold maxLen; omega) ?_)
  have hO := Lib.hid (Ow.full 37 .u32 w n (by unfold maxLen; omega))
  have hB := Lib.hid (((Kept.refl w).alloc (madeCells #[.int .u32 0] n) 37).below)
  generalize w.alloc (.cells (madeCells #[.int .u32 0] n) 37) = w1 at *
  generalize hG : w.heap.size = g at *
  go_loopw [7, 20] (fun _ i wr => ∃ k : Nat, k ≤ n ∧ i = .int .i64 k ∧ Ow 37 .u32 g g n n (L.words bs k ++ List.replicate (n - k) 0) wr ∧ Below g w wr) (fun _ i _ => n - (intOf i).toNat)
  case atStart => exact ⟨0, Nat.zero_le _, rfl, hO.out, hB.out⟩
  case round =>
    clear hO hB
    obtain ⟨k, hk, rfl, hO, hB⟩ := hrel
    by_cases d1 : k < n
    · have d2 : (k : Int) < n := by omega
      rcases hA with h0 | ⟨b, off, rfl⟩
      · omega
      have C := Lib.hid (L.wordAt_any (H.out.below (hG ▸ hB)) hm (4 * k) (by omega))
      obtain ⟨v, hv⟩ := hO.cell k d1
      have hf := hO.free k
      have hS := hO.set k (L.word bs (4 * k))
      rw [L.words_step bs k n d1] at hS
      replace hS := Lib.hid hS
      replace hB := Lib.hid (hB.setCell (p := ⟨g, k, none⟩) (Nat.le_refl _) (.int .u32 (L.word bs (4 * k))))
      have e4 : ((4 * k : Nat) : Int) = 4 * (k : Int) := by omega
      rw [e4] at C
      clear hO
      go_wp2_with (go_at_call 81; refine C.out.mono ?_; rintro e w' ⟨rfl, rfl⟩)
      go_roundw
      case rel => exact ⟨k + 1, by omega, by go_num, hS.out, hB.out⟩
      case measure => simp [intOf]; omega
    · have d2 : ¬ (k : Int) < n := by omega
      obtain rfl : k = n := by omega
      rw [Nat.sub_self, List.replicate_zero, List.append_nil] at hO
      have R := Lib.hid (hO.rw (L := 4294967296) (L.words_rng bs H.out.rng k))
      replace hB := Lib.hid hB
      clear hO
      go_wp2
      go_ret2
      exact ⟨g, rfl, R.out, hB.out⟩
/-- a word's highest j bytes -/
def L.hi (bs : List Int) (p : Nat) : Nat → Int
  | 0 => 0
  | j + 1 => L.hi bs p j * 256 + bs.getD (p + (3 - j)) 0
theorem L.hi_word (bs : List Int) (p : Nat) : L.hi bs p 4 = L.word bs p := by
  unfold L.word
  simp only [L.hi, Nat.add_zero, Nat.sub_self, Nat.sub_zero, show 3 - 1 = 2 from rfl, show 3 - 2 = 1 from rfl]
  omega
theorem L.hi_rng (bs : List Int) (hb : L.Byt bs) (p : Nat) (j : Nat) (hj : j < 4) : 0 ≤ L.hi bs p j ∧ L.hi bs p j < 16777216 := by
  have k1 := L.byt_getD hb (p + 1)
  have k2 := L.byt_getD hb (p + 2)
  have k3 := L.byt_getD hb (p + 3)
  match j, hj with
  | 0, _ => simp [L.hi]
  | 1, _ => simp only [L.hi, Nat.sub_zero]; omega
  | 2, _ => simp only [L.hi, Nat.sub_zero, show 3 - 1 = 2 from rfl]; omega
  | 3, _ => simp only [L.hi, Nat.sub_zero, show 3 - 1 = 2 from rfl, show 3 - 2 = 1 from rfl]; omega
theorem L.words_more (bs : List Int) (i : Nat) : L.words bs i ++ [L.word bs (4 * i)] = L.words bs (i + 1) := by simp [L.words, List.range_succ]
/-- Take, whatever n -/
theorem L.take_any {w : World} {A : Option Addr} {m c : Nat} {bs : List Int} (h : By w A m c bs) (hm : m ≤ 1000000) (n : Int) :
    Calls Try.prog 74 #[.slice A m c, .int .i64 n] w fun e w' => ∃ A' k c', e = .returned (.tuple #[.slice A' k c', .int .i64 (L.tkE bs n)]) ∧ Wo w' A' k c' (L.tkW bs n) ∧ Below w.heap.size w w' := by
  by_cases c1 : n < 0 ∨ ((bs.length / 4 : Nat) : Int) < n
  · rw [(L.tk_no c1).1, (L.tk_no c1).2]
    refine (L.take_no n hm (by rw [h.len] at c1; exact c1)).mono ?_
    rintro e w' ⟨rfl, rfl⟩
    exact ⟨none, 0, 0, rfl, Rw.empty _ _ _, Below.refl _ _⟩
  · obtain ⟨k, rfl⟩ := Int.eq_ofNat_of_zero_le (show 0 ≤ n by omega)
    have hk : k ≤ bs.length / 4 := by omega
    rw [(L.tk_yes hk).1, (L.tk_yes hk).2]
    refine (L.take_yes h hm k (by rw [h.len] at hk; exact hk)).mono ?_
    rintro e w' ⟨g, rfl, h1, h2⟩
    exact ⟨_, _, _, rfl, h1, h2⟩
end Go.Proofs.Ytpfejjkoemnmiaa
