/-
  The contracts of the document's Put; of Take, the program's and the document's.
-/
import Derived.Test.YtmdknjfhdmigdaaLe2
import Derived.Laws.BitsAllLaws
namespace Go.Proofs.Ytmdknjfhdmigdaa
open Go.RowKit
set_option linter.unusedVariables false
set_option linter.unusedSimpArgs false
set_option maxRecDepth 100000
theorem L.shift (x : Int) (k : Nat) : x / 2 ^ (8 * k) / 256 = x / 2 ^ (8 * (k + 1)) := by
  rw [Int.ediv_ediv_of_nonneg (Int.le_of_lt (Int.pow_pos (by decide))), show (256 : Int) = 2 ^ 8 from rfl, ← Int.pow_add, show 8 * k + 8 = 8 * (k + 1) by omega]
theorem L.bounds (x : Int) (k : Nat) (x0 : 0 ≤ x) (x1 : x < 4294967296) : 0 ≤ x / 2 ^ (8 * k) ∧ x / 2 ^ (8 * k) < 4294967296 := by
  have p : (0 : Int) < 2 ^ (8 * k) := Int.pow_pos (by decide)
  refine ⟨Int.ediv_nonneg x0 (Int.le_of_lt p), ?_⟩
  exact Int.lt_of_le_of_lt (Int.ediv_le_self _ x0) x1
set_option maxRecDepth 100000 in
theorem L.rput_own {w : World} {A : Option Addr} {n c : Nat} {xs : List Int} (h : Wo w A n c xs) (hn : n ≤ 100000) :
    Calls Try.prog 25 #[.slice A n c] w fun e w' => ∃ g cap, e = .returned (.slice (some ⟨g, 0, none⟩) (4 * n) cap) ∧ Ow 5 .u8 w.heap.size g (4 * n) cap (L.put xs) w' ∧ Below w.heap.size w w' := by
  have hl := h.len
  have hle := h.le
  have hn1 : (n : Int) ≤ 100000 := by omega
  have H := Lib.hid h
  have hA : n = 0 ∨ ∃ b off, A = some ⟨b, off, none⟩ := (Nat.eq_zero_or_pos n).imp_right h.place
  clear h
  go_enter Try.func25, Try.ntmps25
  go_wp2_with (fail)
  have hO := Lib.hid (Ow.new 5 .u8 w w.heap.size (Nat.le_refl _))
  have hB := Lib.hid (((Kept.refl w).alloc #[] 5).below)
  generalize w.alloc (.cells #[] 5) = w1 at *
  go_loopw [3, 4, 5, 6] (fun b i _ _ wr => ∃ k g cap : Nat, k ≤ n ∧ i = .int .i64 k ∧ b = .slice (some ⟨g, 0, none⟩) (4 * k) cap ∧ Ow 5 .u8 w.heap.size g (4 * k) cap (L.put (xs.take k)) wr ∧ Below w.heap.size w wr) (fun _ i _ _ _ => n - (intOf i).toNat)
  case atStart => exact ⟨0, w.heap.size, 0, Nat.zero_le _, rfl, rfl, hO.out, hB.out⟩
  case round =>
    clear hO hB
    obtain ⟨k, g, cap, hk, rfl, rfl, hO, hB⟩ := hrel
    by_cases d1 : k < n
    · have d2 : (k : Int) < n := by omega
      rcases hA with h0 | ⟨b, off, rfl⟩
      · omega
      obtain ⟨x, hx⟩ : ∃ x, xs[k]? = some x := ⟨_, List.getElem?_eq_getElem (by omega)⟩
      have g1 := (hB.cell (p := ⟨b, off + k, none⟩) (H.out.lt (by omega))).trans (H.out.cellAt k x hx)
      have hr := H.out.rng x (List.mem_of_getElem? hx)
      have R := Lib.hid (L.put_take xs k x hx)
      replace hO := Lib.hid hO
      replace hB := Lib.hid hB
      clear hx
      go_wp2
      clear g1
      rename World => w2
      go_loopw [3, 5, 6] (fun b xv i wr => ∃ j g cap : Nat, j ≤ 4 ∧ i = .int .i64 j ∧ xv = .int .u32 (x / 2 ^ (8 * j)) ∧ b = .slice (some ⟨g, 0, none⟩) (4 * k + j) cap ∧ Ow 5 .u8 w.heap.size g (4 * k + j) cap (L.put (xs.take k) ++ (L.four x).take j) wr ∧ Below w.heap.size w wr) (fun _ _ i _ => 4 - (intOf i).toNat)
      case atStart => exact ⟨0, g, cap, Nat.zero_le _, rfl, by rw [Nat.mul_zero, Int.pow_zero, Int.ediv_one], rfl, by rw [List.take_zero, List.append_nil]; exact hO.out, hB.out⟩
      case round =>
        clear hO hB
        obtain ⟨j, g, cap, hj, rfl, rfl, rfl, hO, hB⟩ := hrel
        have hv := L.bounds x j hr.1 hr.2
        have hsh := L.shift x j
        by_cases e1 : j < 4
        · have e2 : (j : Int) < 4 := by omega
          have R2 := Lib.hid (L.four_step x j e1)
          generalize x / 2 ^ (8 * j) = y at *
          have hg := hO.has.1
          have hs0 : w.heap.size ≤ (wr.alloc (.cells #[.int .u8 (y % 256)] 5)).heap.size := by have := hB.size; simp; omega
          have hY := Lib.hid (Rw.one (L := 256) (Has.new #[.int .u8 (y % 256)] 5 wr) (by omega) (by omega))
          have hA1 := ((Kept.refl wr).alloc #[.int .u8 (y % 256)] 5).below
          replace hO := Lib.hid (hO.below hA1)
          replace hB := Lib.hid (hB.trans (hA1.mono hB.size))
          clear hA1
          go_wp2_with (with_reducible refine append_row (o := ⟨some 27, _, _, _, _, _⟩) (L := 256) Try.underlying27 L.info8 (by omega) rfl (.tmp 22) (.tmp 26) rfl w.heap.size g (4 * k + j) cap _ rfl hO.out _ 1 1 [y % 256] rfl hY.out (by omega) hs0 ?_; intro g3 cap3 w3 hO3 hG3)
          rw [List.append_assoc, R2.out] at hO3
          have hB3 := Lib.hid (hB.out.grown hG3 hs0 (fun q e => by cases e; exact hg))
          replace hO3 := Lib.hid hO3
          clear hG3 hO hB hY hs0
          go_wp2
          go_roundw
          case rel => exact ⟨j + 1, g3, cap3, by omega, by go_num, by rw [hsh], rfl, hO3.out, hB3.out⟩
          case measure => simp [intOf]; omega
        · have e2 : ¬ (j : Int) < 4 := by omega
          obtain rfl : j = 4 := by omega
          rw [L.four_all, ← R.out] at hO
          replace hO := Lib.hid hO
          replace hB := Lib.hid hB
          go_wp2
          go_roundw
          case rel => exact ⟨k + 1, g, cap, by omega, by go_num, rfl, hO.out, hB.out⟩
          case measure => simp [intOf]; omega
    · have d2 : ¬ (k : Int) < n := by omega
      obtain rfl : k = n := by omega
      rw [List.take_of_length_le (by omega)] at hO
      have R := Lib.hid hO
      replace hB := Lib.hid hB
      clear hO
      go_wp2
      go_ret
      exact ⟨g, cap, rfl, R.out, hB.out⟩
theorem L.rput_any {w : World} {A : Option Addr} {n c : Nat} {xs : List Int} (h : Wo w A n c xs) (hn : n ≤ 100000) :
    Calls Try.prog 25 #[.slice A n c] w fun e w' => ∃ g cap, e = .returned (.slice (some ⟨g, 0, none⟩) (4 * n) cap) ∧ By w' (some ⟨g, 0, none⟩) (4 * n) cap (L.put xs) ∧ Below w.heap.size w w' :=
  (L.rput_own h hn).mono fun e w' ⟨g, cap, h1, h2, h3⟩ => ⟨g, cap, h1, h2.rw (L.put_byt xs), h3⟩
/-- a word's lowest j bytes -/
def L.acc (bs : List Int) (p : Nat) : Nat → Int
  | 0 => 0
  | j + 1 => L.acc bs p j + bs.getD (p + j) 0 * 2 ^ (8 * j)
theorem L.acc_word (bs : List Int) (p : Nat) : L.acc bs p 4 = L.word bs p := by
  unfold L.word
  simp only [L.acc, Nat.add_zero]
  omega
theorem L.byt_getD {bs : List Int} (hb : L.Byt bs) (q : Nat) : 0 ≤ bs.getD q 0 ∧ bs.getD q 0 < 256 := by
  rw [List.getD_eq_getElem?_getD]
  cases h : bs[q]? with
  | none => simp
  | some x => exact hb x (List.mem_of_getElem? h)
theorem L.acc_rng (bs : List Int) (hb : L.Byt bs) (p : Nat) : ∀ j, j ≤ 4 → 0 ≤ L.acc bs p j ∧ L.acc bs p j < ((2 ^ (8 * j) : Nat) : Int) := by
  have k0 := L.byt_getD hb (p + 0)
  have k1 := L.byt_getD hb (p + 1)
  have k2 := L.byt_getD hb (p + 2)
  have k3 := L.byt_getD hb (p + 3)
  intro j hj
  match j, hj with
  | 0, _ => simp [L.acc]
  | 1, _ => simp only [L.acc]; omega
  | 2, _ => simp only [L.acc]; omega
  | 3, _ => simp only [L.acc]; omega
  | 4, _ => simp only [L.acc]; omega
theorem L.or_acc (a y : Int) (j : Nat) (hj : j < 4) (a0 : 0 ≤ a) (a1 : a < ((2 ^ (8 * j) : Nat) : Int)) (y0 : 0 ≤ y) (y1 : y < 256) : bits .or .u32 a (y * 2 ^ (8 * j) % 4294967296) = a + y * 2 ^ (8 * j) := by
  obtain ⟨A, rfl⟩ := Int.eq_ofNat_of_zero_le a0
  obtain ⟨Y, rfl⟩ := Int.eq_ofNat_of_zero_le y0
  have hp : 2 ^ (8 * j) ≤ 16777216 := Nat.pow_le_pow_right (n := 2) (by decide) (show 8 * j ≤ 24 by omega)
  have hp0 : 0 < 2 ^ (8 * j) := Nat.two_pow_pos _
  have e : ((Y : Int) * 2 ^ (8 * j)) = ((Y * 2 ^ (8 * j) : Nat) : Int) := by rw [Int.natCast_mul, Int.natCast_pow]; rfl
  have hA : A < 2 ^ (8 * j) := Int.ofNat_lt.1 a1
  have hm : Y * 2 ^ (8 * j) ≤ 255 * 16777216 := Nat.mul_le_mul (by omega) hp
  rw [e, Int.emod_eq_of_lt (by omega) (by omega)]
  rw [u32_or_nat _ _ (by omega) (by omega), Nat.or_comm, nat_join (8 * j) _ _ (Nat.mul_mod_left _ _) hA]
  omega
set_option maxRecDepth 100000 in
theorem L.wordAt_any {w : World} {b off n c : Nat} {bs : List Int} (h : By w (some ⟨b, off, none⟩) n c bs) (hn : n ≤ 1000000) (p : Nat) (hp : p + 4 ≤ n) :
    Calls Try.prog 64 #[.slice (some ⟨b, off, none⟩) n c, .int .i64 p] w fun e w' => e = .returned (.int .u32 (L.word bs p)) ∧ w = w' := by
  have hl := h.len
  have hle := h.le
  have hn1 : (n : Int) ≤ 1000000 := by omega
  have hp1 : (p : Int) + 4 ≤ n := by omega
  have hr := L.acc_rng bs h.rng p
  have hy := Lib.hid (L.byt_getD (bs := bs) h.rng)
  have H := Lib.hid h
  clear h
  rw [← L.acc_word]
  go_enter Try.func64, Try.ntmps64
  go_wp2
  go_loopw [5, 6, 7] (fun a _ i wr => ∃ j : Nat, j ≤ 4 ∧ i = .int .i64 j ∧ a = .int .u32 (L.acc bs p j) ∧ w = wr) (fun _ _ i _ => 4 - (intOf i).toNat)
  case atStart => exact ⟨0, Nat.zero_le _, rfl, rfl, rfl⟩
  case round =>
    obtain ⟨j, hj, rfl, rfl, rfl⟩ := hrel
    by_cases e1 : j < 4
    · have e2 : (j : Int) < 4 := by omega
      have g1 := H.out.cellAt (p + j) (bs.getD (p + j) 0) (by rw [List.getD_eq_getElem?_getD, List.getElem?_eq_getElem (show p + j < bs.length by omega)]; rfl)
      have hr1 := hr j hj
      have hy1 := hy.out (p + j)
      have R : Hid (bits .or .u32 (L.acc bs p j) (bs.getD (p + j) 0 * 2 ^ (8 * j) % 4294967296) = L.acc bs p (j + 1)) := Lib.hid (L.or_acc _ _ j e1 hr1.1 hr1.2 hy1.1 hy1.2)
      have hp2 : (p : Int) + j < n := by omega
      generalize bs.getD (p + j) 0 = y at *
      clear hr hr1 hy
      go_wp2
      go_roundw
      case rel => exact ⟨j + 1, by omega, by go_num, by rw [R.out], by trivial⟩
      case measure => simp [intOf]; omega
    · have e2 : ¬ (j : Int) < 4 := by omega
      obtain rfl : j = 4 := by omega
      clear hr hy
      go_wp2
      go_ret
      exact ⟨rfl, rfl⟩
theorem L.words_step (bs : List Int) (i n : Nat) (hi : i < n) : (L.words bs i ++ List.replicate (n - i) 0).set i (L.word bs (4 * i)) = L.words bs (i + 1) ++ List.replicate (n - (i + 1)) 0 := by
  have hl : (L.words bs i).length = i := by simp [L.words]
  rw [List.set_append_right _ _ (by omega), hl, Nat.sub_self, show n - i = (n - (i + 1)) + 1 by omega, List.replicate_succ, List.set_cons_zero]
  rw [show L.words bs (i + 1) = L.words bs i ++ [L.word bs (4 * i)] by simp [L.words, List.range_succ], List.append_assoc]
  rfl
theorem L.tk_no {bs : List Int} {n : Int} (h : n < 0 ∨ ((bs.length / 4 : Nat) : Int) < n) : L.tkE bs n = 3 ∧ L.tkW bs n = [] := by
  unfold L.tkE L.tkW
  rw [if_pos h, if_pos h]; exact ⟨rfl, rfl⟩
theorem L.tk_yes {bs : List Int} {n : Nat} (h : n ≤ bs.length / 4) : L.tkE bs n = 0 ∧ L.tkW bs n = L.words bs n := by
  unfold L.tkE L.tkW
  have h2 : ¬ ((n : Int) < 0 ∨ ((bs.length / 4 : Nat) : Int) < n) := by omega
  rw [if_neg h2, if_neg h2]; exact ⟨rfl, rfl⟩
theorem L.take_no {w : World} {A : Option Addr} {m c : Nat} (n : Int) (hm : m ≤ 1000000) (h : n < 0 ∨ ((m / 4 : Nat) : Int) < n) :
    Calls Try.prog 62 #[.slice A m c, .int .i64 n] w fun e w' => e = .returned (.tuple #[.slice none 0 0, .int .i64 3]) ∧ w = w' := by
  have hm1 : (m : Int) ≤ 1000000 := by omega
  by_cases c1 : n < 0
  · go_enter Try.func62, Try.ntmps62
    go_wp2
    go_ret2
    exact ⟨rfl, rfl⟩
  · have c2 : n > (m : Int) / 4 := by omega
    go_enter Try.func62, Try.ntmps62
    go_wp2
    go_ret2
    exact ⟨rfl, rfl⟩
theorem L.rtake_no {w : World} {A : Option Addr} {m c : Nat} (n : Int) (hm : m ≤ 1000000) (h : n < 0 ∨ ((m / 4 : Nat) : Int) < n) :
    Calls Try.prog 29 #[.slice A m c, .int .i64 n] w fun e w' => e = .returned (.tuple #[.slice none 0 0, .int .i64 3]) ∧ w = w' := by
  have hm1 : (m : Int) ≤ 1000000 := by omega
  by_cases c1 : n < 0
  · go_enter Try.func29, Try.ntmps29
    go_wp2
    go_ret2
    exact ⟨rfl, rfl⟩
  · have c2 : (m : Int) / 4 < n := by omega
    go_enter Try.func29, Try.ntmps29
    go_wp2
    go_ret2
    exact ⟨rfl, rfl⟩
set_option maxRecDepth 100000 in
theorem L.take_yes {w : World} {A : Option Addr} {m c : Nat} {bs : List Int} (h : By w A m c bs) (hm : m ≤ 1000000) (n : Nat) (hn : n ≤ m / 4) :
    Calls Try.prog 62 #[.slice A m c, .int .i64 n] w fun e w' => ∃ g, e = .returned (.tuple #[.slice (some ⟨g, 0, none⟩) n n, .int .i64 0]) ∧ Wo w' (some ⟨g, 0, none⟩) n n (L.words bs n) ∧ Below w.heap.size w w' := by
  have hl := h.len
  have hle := h.le
  have hm1 : (m : Int) ≤ 1000000 := by omega
  have hn1 : (n : Int) ≤ (m : Int) / 4 := by omega
  have hn0 : ¬ (n : Int) < 0 := by omega
  have hn2 : ¬ (n : Int) > (m : Int) / 4 := by omega
  have H := Lib.hid h
  have hA : n = 0 ∨ ∃ b off, A = some ⟨b, off, none⟩ := (Nat.eq_zero_or_pos n).imp_right (fun h0 => h.place (by omega))
  clear h
  go_enter Try.func62, Try.ntmps62
  go_wp2_with (with_reducible refine make_rows rfl (.tmp 17) (.tmp 17) 22 rfl 45 Try.underlying22 L.info32 n n _ _ rfl rfl rfl rfl (Nat.le_refl _) (by omega) (by unfold maxLen; omega) ?_)
  have hO := Lib.hid (Ow.full 45 .u32 w n (by unfold maxLen; omega))
  have hB := Lib.hid (((Kept.refl w).alloc (madeCells #[.int .u32 0] n) 45).below)
  generalize w.alloc (.cells (madeCells #[.int .u32 0] n) 45) = w1 at *
  generalize hG : w.heap.size = g at *
  go_loopw [7, 20] (fun _ i wr => ∃ k : Nat, k ≤ n ∧ i = .int .i64 k ∧ Ow 45 .u32 g g n n (L.words bs k ++ List.replicate (n - k) 0) wr ∧ Below g w wr) (fun _ i _ => n - (intOf i).toNat)
  case atStart => exact ⟨0, Nat.zero_le _, rfl, hO.out, hB.out⟩
  case round =>
    clear hO hB
    obtain ⟨k, hk, rfl, hO, hB⟩ := hrel
    by_cases d1 : k < n
    · have d2 : (k : Int) < n := by omega
      rcases hA with h0 | ⟨b, off, rfl⟩
      · omega
      have C := Lib.hid (L.wordAt_any (H.out.below (hG ▸ hB)) hm (4 * k) (by omega))
      obtain ⟨v, hv⟩ := hO.cell k d1
      have hf := hO.free k
      have hS := hO.set k (L.word bs (4 * k))
      rw [L.words_step bs k n d1] at hS
      replace hS := Lib.hid hS
      replace hB := Lib.hid (hB.setCell (p := ⟨g, k, none⟩) (Nat.le_refl _) (.int .u32 (L.word bs (4 * k))))
      have e4 : ((4 * k : Nat) : Int) = 4 * (k : Int) := by omega
      rw [e4] at C
      clear hO
      go_wp2_with (go_at_call 64; refine C.out.mono ?_; rintro e w' ⟨rfl, rfl⟩)
      go_roundw
      case rel => exact ⟨k + 1, by omega, by go_num, hS.out, hB.out⟩
      case measure => simp [intOf]; omega
    · have d2 : ¬ (k : Int) < n := by omega
      obtain rfl : k = n := by omega
      rw [Nat.sub_self, List.replicate_zero, List.append_nil] at hO
      have R := Lib.hid (hO.rw (L := 4294967296) (L.words_rng bs H.out.rng k))
      replace hB := Lib.hid hB
      clear hO
      go_wp2
      go_ret2
      exact ⟨g, rfl, R.out, hB.out⟩
/-- a word's highest j bytes -/
def L.hi (bs : List Int) (p : Nat) : Nat → Int
  | 0 => 0
  | j + 1 => L.hi bs p j * 256 + bs.getD (p + (3 - j)) 0
theorem L.hi_word (bs : List Int) (p : Nat) : L.hi bs p 4 = L.word bs p := by
  unfold L.word
  simp only [L.hi, Nat.add_zero, Nat.sub_self, Nat.sub_zero, show 3 - 1 = 2 from rfl, show 3 - 2 = 1 from rfl]
  omega
theorem L.hi_rng (bs : List Int) (hb : L.Byt bs) (p : Nat) (j : Nat) (hj : j < 4) : 0 ≤ L.hi bs p j ∧ L.hi bs p j < 16777216 := by
  have k1 := L.byt_getD hb (p + 1)
  have k2 := L.byt_getD hb (p + 2)
  have k3 := L.byt_getD hb (p + 3)
  match j, hj with
  | 0, _ => simp [L.hi]
  | 1, _ => simp only [L.hi, Nat.sub_zero]; omega
  | 2, _ => simp only [L.hi, Nat.sub_zero, show 3 - 1 = 2 from rfl]; omega
  | 3, _ => simp only [L.hi, Nat.sub_zero, show 3 - 1 = 2 from rfl, show 3 - 2 = 1 from rfl]; omega
theorem L.words_more (bs : List Int) (i : Nat) : L.words bs i ++ [L.word bs (4 * i)] = L.words bs (i + 1) := by simp [L.words, List.range_succ]
set_option maxRecDepth 100000 in
theorem L.rtake_yes {w : World} {A : Option Addr} {m c : Nat} {bs : List Int} (h : By w A m c bs) (hm : m ≤ 1000000) (n : Nat) (hn : n ≤ m / 4) :
    Calls Try.prog 29 #[.slice A m c, .int .i64 n] w fun e w' => ∃ g cap, e = .returned (.tuple #[.slice (some ⟨g, 0, none⟩) n cap, .int .i64 0]) ∧ Wo w' (some ⟨g, 0, none⟩) n cap (L.words bs n) ∧ Below w.heap.size w w' := by
  have hl := h.len
  have hle := h.le
  have hm1 : (m : Int) ≤ 1000000 := by omega
  have hn1 : (n : Int) ≤ (m : Int) / 4 := by omega
  have hn0 : ¬ (n : Int) < 0 := by omega
  have hn2 : ¬ (m : Int) / 4 < (n : Int) := by omega
  have H := Lib.hid h
  have hA : n = 0 ∨ ∃ b off, A = some ⟨b, off, none⟩ := (Nat.eq_zero_or_pos n).imp_right (fun h0 => h.place (by omega))
  have hW := Lib.hid (fun p => L.word_rng bs h.rng p)
  clear h
  go_enter Try.func29, Try.ntmps29
  go_wp2_with (fail)
  have hO := Lib.hid (Ow.new 45 .u32 w w.heap.size (Nat.le_refl _))
  have hB := Lib.hid (((Kept.refl w).alloc #[] 45).below)
  generalize w.alloc (.cells #[] 45) = w1 at *
  go_loopw [6, 7, 8, 9] (fun o i _ _ wr => ∃ k g cap : Nat, k ≤ n ∧ i = .int .i64 k ∧ o = .slice (some ⟨g, 0, none⟩) k cap ∧ Ow 45 .u32 w.heap.size g k cap (L.words bs k) wr ∧ Below w.heap.size w wr) (fun _ i _ _ _ => n - (intOf i).toNat)
  case atStart => exact ⟨0, w.heap.size, 0, Nat.zero_le _, rfl, rfl, hO.out, hB.out⟩
  case round =>
    clear hO hB
    obtain ⟨k, g, cap, hk, rfl, rfl, hO, hB⟩ := hrel
    by_cases d1 : k < n
    · have d2 : (k : Int) < n := by omega
      rcases hA with h0 | ⟨b, off, rfl⟩
      · omega
      have hY := Lib.hid (H.out.below hB)
      replace hO := Lib.hid hO
      replace hB := Lib.hid hB
      go_wp2
      rename World => w2
      go_loopw [8, 9] (fun xv i wr => ∃ j : Nat, j ≤ 4 ∧ i = .int .i64 (3 - (j : Int)) ∧ xv = .int .u32 (L.hi bs (4 * k) j) ∧ w2 = wr) (fun _ i _ => (intOf i + 1).toNat)
      case atStart => exact ⟨0, Nat.zero_le _, rfl, rfl, rfl⟩
      case round =>
        obtain ⟨j, hj, rfl, rfl, rfl⟩ := hrel
        by_cases e1 : j < 4
        · have e2 : (3 : Int) - j ≥ 0 := by omega
          have g1 := hY.out.cellAt (4 * k + (3 - j)) (bs.getD (4 * k + (3 - j)) 0) (by rw [List.getD_eq_getElem?_getD, List.getElem?_eq_getElem (show 4 * k + (3 - j) < bs.length by omega)]; rfl)
          have hr1 := L.hi_rng bs H.out.rng (4 * k) j e1
          have hy1 := L.byt_getD (bs := bs) H.out.rng (4 * k + (3 - j))
          have R : Hid (L.hi bs (4 * k) j * 256 + bs.getD (4 * k + (3 - j)) 0 = L.hi bs (4 * k) (j + 1)) := Lib.hid rfl
          generalize bs.getD (4 * k + (3 - j)) 0 = y at *
          generalize L.hi bs (4 * k) j = x at *
          have hp2 : 4 * (k : Int) + (3 - (j : Int)) < m := by omega
          have hp3 : 0 ≤ 4 * (k : Int) + (3 - (j : Int)) := by omega
          have hp4 : (4 * (k : Int) + (3 - (j : Int))).toNat = 4 * k + (3 - j) := by omega
          go_wp2
          go_roundw
          case rel => exact ⟨j + 1, by omega, by first | go_num | (congr 1; omega), by rw [R.out], by trivial⟩
          case measure => simp [intOf]; omega
        · have e2 : ¬ (3 : Int) - j ≥ 0 := by omega
          obtain rfl : j = 4 := by omega
          rw [L.hi_word]
          have hr1 := hW.out (4 * k)
          have R2 := Lib.hid (L.words_more bs k)
          generalize L.word bs (4 * k) = x at *
          have hg := hO.out.has.1
          have hA1 := ((Kept.refl w2).alloc #[.int .u32 x] 45).below
          have hs0 : w.heap.size ≤ (w2.alloc (.cells #[.int .u32 x] 45)).heap.size := by have := hB.out.size; simp; omega
          have hY := Lib.hid (Rw.one (L := 4294967296) (Has.new #[.int .u32 x] 45 w2) hr1.1 hr1.2)
          replace hO := Lib.hid (hO.out.below hA1)
          replace hB := Lib.hid (hB.out.trans (hA1.mono hB.out.size))
          clear hA1
          go_wp2_with (with_reducible refine append_row (o := ⟨some 43, _, _, _, _, _⟩) (L := 4294967296) Try.underlying22 L.info32 (by omega) rfl (.tmp 40) (.tmp 42) rfl w.heap.size g k cap _ rfl hO.out _ 1 1 [x] rfl hY.out (by omega) hs0 ?_; intro g3 cap3 w3 hO3 hG3)
          rw [R2.out] at hO3
          have hB3 := Lib.hid (hB.out.grown hG3 hs0 (fun q e => by cases e; exact hg))
          replace hO3 := Lib.hid hO3
          clear hG3 hO hB hY hs0
          go_wp2
          go_roundw
          case rel => exact ⟨k + 1, g3, cap3, by omega, by go_num, rfl, hO3.out, hB3.out⟩
          case measure => simp [intOf]; omega
    · have d2 : ¬ (k : Int) < n := by omega
      obtain rfl : k = n := by omega
      have R := Lib.hid (hO.rw (L := 4294967296) (L.words_rng bs H.out.rng k))
      replace hB := Lib.hid hB
      clear hO
      go_wp2
      go_ret2
      exact ⟨g, cap, rfl, R.out, hB.out⟩
/-- Take, whatever n -/
theorem L.take_any {w : World} {A : Option Addr} {m c : Nat} {bs : List Int} (h : By w A m c bs) (hm : m ≤ 1000000) (n : Int) :
    Calls Try.prog 62 #[.slice A m c, .int .i64 n] w fun e w' => ∃ A' k c', e = .returned (.tuple #[.slice A' k c', .int .i64 (L.tkE bs n)]) ∧ Wo w' A' k c' (L.tkW bs n) ∧ Below w.heap.size w w' := by
  by_cases c1 : n < 0 ∨ ((bs.length / 4 : Nat) : Int) < n
  · rw [(L.tk_no c1).1, (L.tk_no c1).2]
    refine (L.take_no n hm (by rw [h.len] at c1; exact c1)).mono ?_
    rintro e w' ⟨rfl, rfl⟩
    exact ⟨none, 0, 0, rfl, Rw.empty _ _ _, Below.refl _ _⟩
  · obtain ⟨k, rfl⟩ := Int.eq_ofNat_of_zero_le (show 0 ≤ n by omega)
    have hk : k ≤ bs.length / 4 := by omega
    rw [(L.tk_yes hk).1, (L.tk_yes hk).2]
    refine (L.take_yes h hm k (by rw [h.len] at hk; exact hk)).mono ?_
    rintro e w' ⟨g, rfl, h1, h2⟩
    exact ⟨_, _, _, rfl, h1, h2⟩
theorem L.rtake_any {w : World} {A : Option Addr} {m c : Nat} {bs : List Int} (h : By w A m c bs) (hm : m ≤ 1000000) (n : Int) :
    Calls Try.prog 29 #[.slice A m c, .int .i64 n] w fun e w' => ∃ A' k c', e = .returned (.tuple #[.slice A' k c', .int .i64 (L.tkE bs n)]) ∧ Wo w' A' k c' (L.tkW bs n) ∧ Below w.heap.size w w' := by
  by_cases c1 : n < 0 ∨ ((bs.length / 4 : Nat) : Int) < n
  · rw [(L.tk_no c1).1, (L.tk_no c1).2]
    refine (L.rtake_no n hm (by rw [h.len] at c1; exact c1)).mono ?_
    rintro e w' ⟨rfl, rfl⟩
    exact ⟨none, 0, 0, rfl, Rw.empty _ _ _, Below.refl _ _⟩
  · obtain ⟨k, rfl⟩ := Int.eq_ofNat_of_zero_le (show 0 ≤ n by omega)
    have hk : k ≤ bs.length / 4 := by omega
    rw [(L.tk_yes hk).1, (L.tk_yes hk).2]
    refine (L.rtake_yes h hm k (by rw [h.len] at hk; exact hk)).mono ?_
    rintro e w' ⟨g, cap, rfl, h1, h2⟩
    exact ⟨_, _, _, rfl, h1, h2⟩
end Go.Proofs.Ytmdknjfhdmigdaa
