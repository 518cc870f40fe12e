/-
  Instructions as plain data: which may be, their words, and what a word says. No Go text is named here.
-/
import Derived.Test.YtkkoihhkfophnaaDoorField0
namespace Go.Proofs.YtkkoihhkfophnaaDoor
set_option linter.unusedVariables false
set_option linter.unusedSimpArgs false
set_option maxRecDepth 100000
namespace I
/-- a register -/
def reg (n : Int) : Bool := decide (0 ≤ n) && decide (n ≤ 15)
def bit (u : Bool) : Int := if u then 1 else 0
def nb (op b : Int) : Int := if op = 0 then 0 else b
def carry (op : Int) : Bool := decide (8 ≤ op) && decide (op ≤ 10)
def isOp (k op : Int) : Bool :=
  if k = 1 ∨ k = 2 then decide (0 ≤ op) && decide (op ≤ 11)
  else if k = 3 ∨ k = 4 then op == 0
  else if k = 5 then decide (0 ≤ op) && decide (op ≤ 3)
  else if k = 6 ∨ k = 7 then decide (0 ≤ op) && decide (op ≤ 15)
  else false
def isNum (k op i : Int) (u : Bool) : Bool :=
  if k = 2 then F.fitsK i 17 && !(op == 0 && u && decide (i < 0))
  else if k = 5 then F.fitsK i 20
  else if k = 7 then F.fitsK i 24
  else i == 0
/-- an instruction: Kind, Op, A, B, C, Imm, U -/
structure Ins where
  k : Int
  op : Int
  a : Int
  b : Int
  c : Int
  i : Int
  u : Bool
deriving DecidableEq
/-- without all that its kind and operation do not name -/
def named (x : Ins) : Ins :=
  if x.k = 1 then ⟨x.k, x.op, x.a, nb x.op x.b, x.c, 0, x.u && carry x.op⟩
  else if x.k = 2 then ⟨x.k, x.op, x.a, nb x.op x.b, 0, x.i, x.u && (x.op == 0 || carry x.op)⟩
  else if x.k = 3 ∨ x.k = 4 then ⟨x.k, 0, x.a, 0, 0, 0, false⟩
  else if x.k = 5 then ⟨x.k, x.op, x.a, x.b, 0, x.i, false⟩
  else if x.k = 6 then ⟨x.k, x.op, 0, 0, x.c, 0, x.u⟩
  else if x.k = 7 then ⟨x.k, x.op, 0, 0, 0, x.i, x.u⟩
  else ⟨0, 0, 0, 0, 0, 0, false⟩
/-- P3.1, row by row -/
def May (x : Ins) : Prop :=
  (0 ≤ x.a ∧ x.a ≤ 15 ∧ 0 ≤ x.b ∧ x.b ≤ 15 ∧ 0 ≤ x.c ∧ x.c ≤ 15) ∧
  ((x.k = 1 ∧ 0 ≤ x.op ∧ x.op ≤ 11 ∧ (x.op = 0 → x.b = 0) ∧ (x.u = true → 8 ≤ x.op ∧ x.op ≤ 10) ∧ x.i = 0) ∨
   (x.k = 2 ∧ 0 ≤ x.op ∧ x.op ≤ 11 ∧ (x.op = 0 → x.b = 0) ∧ (x.u = true → x.op = 0 ∨ 8 ≤ x.op ∧ x.op ≤ 10) ∧ x.c = 0 ∧ -65536 ≤ x.i ∧ x.i ≤ 65535 ∧ (x.op = 0 → x.u = true → 0 ≤ x.i)) ∨
   ((x.k = 3 ∨ x.k = 4) ∧ x.op = 0 ∧ x.b = 0 ∧ x.c = 0 ∧ x.i = 0 ∧ x.u = false) ∨
   (x.k = 5 ∧ 0 ≤ x.op ∧ x.op ≤ 3 ∧ x.c = 0 ∧ -524288 ≤ x.i ∧ x.i ≤ 524287 ∧ x.u = false) ∨
   (x.k = 6 ∧ 0 ≤ x.op ∧ x.op ≤ 15 ∧ x.a = 0 ∧ x.b = 0 ∧ x.i = 0) ∨
   (x.k = 7 ∧ 0 ≤ x.op ∧ x.op ≤ 15 ∧ x.a = 0 ∧ x.b = 0 ∧ x.c = 0 ∧ -8388608 ≤ x.i ∧ x.i ≤ 8388607))
noncomputable instance (x : Ins) : Decidable (May x) := Classical.propDecidable _
noncomputable def may (x : Ins) : Bool := decide (May x)
theorem fits17 (i : Int) : F.fitsK i 17 = (decide (-65536 ≤ i) && decide (i < 65536)) := by unfold F.fitsK; simp
theorem fits20 (i : Int) : F.fitsK i 20 = (decide (-524288 ≤ i) && decide (i < 524288)) := by unfold F.fitsK; simp
theorem fits24 (i : Int) : F.fitsK i 24 = (decide (-8388608 ≤ i) && decide (i < 8388608)) := by unfold F.fitsK; simp
/-- the program's way to say it -/
theorem may_named (x : Ins) : (decide (x = named x) && isOp x.k x.op && reg x.a && reg x.b && reg x.c && isNum x.k x.op x.i x.u) = may x := by
  rw [Bool.eq_iff_iff]
  obtain ⟨k, op, a, b, c, i, u⟩ := x
  simp only [may, decide_eq_true_eq, Bool.and_eq_true, reg, May]
  by_cases h1 : k = 1
  · subst h1; cases u <;> simp [named, isOp, isNum, nb, carry] <;> omega
  by_cases h2 : k = 2
  · subst h2; cases u <;> simp [named, isOp, isNum, nb, carry, fits17] <;> omega
  by_cases h3 : k = 3
  · subst h3; cases u <;> simp [named, isOp, isNum, nb, carry] <;> omega
  by_cases h4 : k = 4
  · subst h4; cases u <;> simp [named, isOp, isNum, nb, carry] <;> omega
  by_cases h5 : k = 5
  · subst h5; cases u <;> simp [named, isOp, isNum, nb, carry, fits20] <;> omega
  by_cases h6 : k = 6
  · subst h6; cases u <;> simp [named, isOp, isNum, nb, carry] <;> omega
  by_cases h7 : k = 7
  · subst h7; cases u <;> simp [named, isOp, isNum, nb, carry, fits24] <;> omega
  · simp [isOp, h1, h2, h3, h4, h5, h6, h7]
/-- P3.2, row by row -/
def word (x : Ins) : Int :=
  if x.k = 1 then bit x.u * 536870912 + x.a * 16777216 + x.b * 1048576 + x.op * 65536 + x.c
  else if x.k = 2 then 1073741824 + bit x.u * 536870912 + bit (decide (x.i < 0)) * 268435456 + x.a * 16777216 + x.b * 1048576 + x.op * 65536 + x.i % 65536
  else if x.k = 3 then 536870912 + x.a * 16777216
  else if x.k = 4 then 805306368 + x.a * 16777216
  else if x.k = 5 then 2147483648 + x.op * 268435456 + x.a * 16777216 + x.b * 1048576 + x.i % 1048576
  else if x.k = 6 then 3221225472 + bit x.u * 268435456 + x.op * 16777216 + x.c
  else 3758096384 + bit x.u * 268435456 + x.op * 16777216 + x.i % 16777216
def sx (n x : Int) : Int := if x < n then x else x - 2 * n
/-- what a word says, whether it may be or not -/
def guess (w : Int) : Ins :=
  if w / 1073741824 = 0 then
    if w / 536870912 % 2 = 1 ∧ w / 65536 % 16 = 0 then
      if w / 268435456 % 2 = 1 then ⟨4, 0, w / 16777216 % 16, 0, 0, 0, false⟩ else ⟨3, 0, w / 16777216 % 16, 0, 0, 0, false⟩
    else ⟨1, w / 65536 % 16, w / 16777216 % 16, w / 1048576 % 16, w % 16, 0, decide (w / 536870912 % 2 = 1)⟩
  else if w / 1073741824 = 1 then ⟨2, w / 65536 % 16, w / 16777216 % 16, w / 1048576 % 16, 0, if w / 268435456 % 2 = 1 then w % 65536 - 65536 else w % 65536, decide (w / 536870912 % 2 = 1)⟩
  else if w / 1073741824 = 2 then ⟨5, w / 268435456 % 4, w / 16777216 % 16, w / 1048576 % 16, 0, sx 524288 (w % 1048576), false⟩
  else if w / 536870912 % 2 = 1 then ⟨7, w / 16777216 % 16, 0, 0, 0, sx 8388608 (w % 16777216), decide (w / 268435456 % 2 = 1)⟩
  else ⟨6, w / 16777216 % 16, 0, 0, w % 16, 0, decide (w / 268435456 % 2 = 1)⟩
/-- P3.2 -/
noncomputable def enc (x : Ins) : Int := if may x then word x else 0
noncomputable def err (x : Ins) : Int := if may x then 0 else 1
noncomputable def is (w : Int) : Bool := may (guess w) && word (guess w) == w
/-- P3.3 -/
noncomputable def dec (w : Int) : Ins := if is w then guess w else ⟨0, 0, 0, 0, 0, 0, false⟩
theorem word_lo (x : Ins) (h : May x) : 0 ≤ word x := by
  obtain ⟨k, op, a, b, c, i, u⟩ := x
  unfold May at h
  unfold word bit
  simp only at *
  split
  · split <;> omega
  split
  · split <;> split <;> omega
  split
  · omega
  split
  · omega
  split
  · omega
  split
  · split <;> omega
  · split <;> omega
theorem word_hi (x : Ins) (h : May x) : word x < 4294967296 := by
  obtain ⟨k, op, a, b, c, i, u⟩ := x
  unfold May at h
  unfold word bit
  simp only at *
  split
  · split <;> omega
  split
  · split <;> split <;> omega
  split
  · omega
  split
  · omega
  split
  · omega
  split
  · split <;> omega
  · split <;> omega
theorem ins_ext {x y : Ins} (h1 : x.k = y.k) (h2 : x.op = y.op) (h3 : x.a = y.a) (h4 : x.b = y.b) (h5 : x.c = y.c) (h6 : x.i = y.i) (h7 : x.u = y.u) : x = y := by
  cases x; cases y; simp_all
theorem top (T r w : Int) (hw : w = T * 268435456 + r) (r0 : 0 ≤ r) (r1 : r < 268435456) : w / 268435456 = T ∧ w / 1073741824 = T / 4 ∧ w / 536870912 = T / 2 ∧ w % 268435456 = r := by omega
theorem dig24 (T a m w : Int) (hw : w = T * 268435456 + a * 16777216 + m) (a0 : 0 ≤ a) (a1 : a ≤ 15) (m0 : 0 ≤ m) (m1 : m < 16777216) : w / 16777216 % 16 = a ∧ w % 16777216 = m := by omega
theorem dig20 (T a b m w : Int) (hw : w = T * 268435456 + a * 16777216 + b * 1048576 + m) (a0 : 0 ≤ a) (a1 : a ≤ 15) (b0 : 0 ≤ b) (b1 : b ≤ 15) (m0 : 0 ≤ m) (m1 : m < 1048576) : w / 1048576 % 16 = b ∧ w % 1048576 = m := by omega
theorem dig16 (T a b o m w : Int) (hw : w = T * 268435456 + a * 16777216 + b * 1048576 + o * 65536 + m) (a0 : 0 ≤ a) (a1 : a ≤ 15) (b0 : 0 ≤ b) (b1 : b ≤ 15) (o0 : 0 ≤ o) (o1 : o ≤ 15) (m0 : 0 ≤ m) (m1 : m < 65536) : w / 65536 % 16 = o ∧ w % 65536 = m := by omega
theorem bit_lo (u : Bool) : 0 ≤ bit u := by cases u <;> decide
theorem bit_hi (u : Bool) : bit u ≤ 1 := by cases u <;> decide
theorem bit_t : bit true = 1 := rfl
theorem bit_f : bit false = 0 := rfl
theorem bit_one (u : Bool) : decide (bit u = 1) = u := by cases u <;> rfl
theorem guess_word (x : Ins) (h : May x) : guess (word x) = x := by
  obtain ⟨k, op, a, b, c, i, u⟩ := x
  unfold May at h
  simp only at h
  obtain ⟨⟨a0, a1, b0, b1, c0, c1⟩, h⟩ := h
  rcases h with ⟨rfl, h⟩ | ⟨rfl, h⟩ | ⟨rfl | rfl, h⟩ | ⟨rfl, h⟩ | ⟨rfl, h⟩ | ⟨rfl, h⟩
  · obtain ⟨o0, o1, ob, ou, rfl⟩ := h
    have B0 := bit_lo u
    have B1 := bit_hi u
    have hz : bit u = 1 → op ≠ 0 := by intro h; cases u; cases h; have := ou rfl; omega
    have hB := bit_one u
    obtain ⟨B, hb⟩ : ∃ B, bit u = B := ⟨_, rfl⟩
    rw [hb] at B0 B1 hz hB
    have hw : word ⟨1, op, a, b, c, 0, u⟩ = (2 * B) * 268435456 + a * 16777216 + b * 1048576 + op * 65536 + c := by simp [word, hb]; omega
    generalize word ⟨1, op, a, b, c, 0, u⟩ = w at hw
    obtain ⟨t0, t1, t2, t3⟩ := top (2 * B) (a * 16777216 + b * 1048576 + op * 65536 + c) w (by omega) (by omega) (by omega)
    obtain ⟨d1, d1'⟩ := dig24 (2 * B) a (b * 1048576 + op * 65536 + c) w (by omega) (by omega) (by omega) (by omega) (by omega)
    obtain ⟨d2, d2'⟩ := dig20 (2 * B) a b (op * 65536 + c) w (by omega) (by omega) (by omega) (by omega) (by omega) (by omega) (by omega)
    obtain ⟨d3, d3'⟩ := dig16 (2 * B) a b op c w (by omega) (by omega) (by omega) (by omega) (by omega) (by omega) (by omega) (by omega) (by omega)
    unfold guess
    rw [t1, t2, d1, d2, d3, if_pos (by omega), if_neg (by omega)]
    exact ins_ext rfl rfl rfl rfl (by simp only; omega) rfl (by rw [← hB]; simp only; congr 1; rw [eq_iff_iff]; omega)
  · obtain ⟨o0, o1, ob, ou, rfl, i0, i1, hu⟩ := h
    have B0 := bit_lo u
    have B1 := bit_hi u
    have hB := bit_one u
    obtain ⟨B, hb⟩ : ∃ B, bit u = B := ⟨_, rfl⟩
    rw [hb] at B0 B1 hB
    have S0 := bit_lo (decide (i < 0))
    have S1 := bit_hi (decide (i < 0))
    have hS := bit_one (decide (i < 0))
    obtain ⟨S, hs⟩ : ∃ B, bit (decide (i < 0)) = B := ⟨_, rfl⟩
    rw [hs] at S0 S1 hS
    have hS' : S = 1 ↔ i < 0 := by simpa using hS
    have hw : word ⟨2, op, a, b, 0, i, u⟩ = (4 + 2 * B + S) * 268435456 + a * 16777216 + b * 1048576 + op * 65536 + i % 65536 := by simp [word, hb, hs]; omega
    generalize word ⟨2, op, a, b, 0, i, u⟩ = w at hw
    obtain ⟨t0, t1, t2, t3⟩ := top (4 + 2 * B + S) (a * 16777216 + b * 1048576 + op * 65536 + i % 65536) w (by omega) (by omega) (by omega)
    obtain ⟨d1, d1'⟩ := dig24 (4 + 2 * B + S) a (b * 1048576 + op * 65536 + i % 65536) w (by omega) (by omega) (by omega) (by omega) (by omega)
    obtain ⟨d2, d2'⟩ := dig20 (4 + 2 * B + S) a b (op * 65536 + i % 65536) w (by omega) (by omega) (by omega) (by omega) (by omega) (by omega) (by omega)
    obtain ⟨d3, d3'⟩ := dig16 (4 + 2 * B + S) a b op (i % 65536) w (by omega) (by omega) (by omega) (by omega) (by omega) (by omega) (by omega) (by omega) (by omega)
    unfold guess
    rw [t0, t1, t2, d1, d2, d3, d3', if_neg (by omega), if_pos (by omega)]
    refine ins_ext rfl rfl rfl rfl rfl ?_ (by rw [← hB]; simp only; congr 1; rw [eq_iff_iff]; omega)
    simp only
    split <;> omega
  · obtain ⟨rfl, rfl, rfl, rfl, rfl⟩ := h
    have hw : word ⟨3, 0, a, 0, 0, 0, false⟩ = 2 * 268435456 + a * 16777216 + 0 * 1048576 + 0 * 65536 + 0 := by simp [word]
    generalize word ⟨3, 0, a, 0, 0, 0, false⟩ = w at hw
    unfold guess
    rw [if_pos (by omega), if_pos (by omega), if_neg (by omega)]
    exact ins_ext rfl rfl (by simp only; omega) rfl rfl rfl rfl
  · obtain ⟨rfl, rfl, rfl, rfl, rfl⟩ := h
    have hw : word ⟨4, 0, a, 0, 0, 0, false⟩ = 3 * 268435456 + a * 16777216 + 0 * 1048576 + 0 * 65536 + 0 := by simp [word]
    generalize word ⟨4, 0, a, 0, 0, 0, false⟩ = w at hw
    unfold guess
    rw [if_pos (by omega), if_pos (by omega), if_pos (by omega)]
    exact ins_ext rfl rfl (by simp only; omega) rfl rfl rfl rfl
  · obtain ⟨o0, o1, rfl, i0, i1, rfl⟩ := h
    have hw : word ⟨5, op, a, b, 0, i, false⟩ = (8 + op) * 268435456 + a * 16777216 + b * 1048576 + i % 1048576 := by simp [word]; omega
    generalize word ⟨5, op, a, b, 0, i, false⟩ = w at hw
    obtain ⟨t0, t1, t2, t3⟩ := top (8 + op) (a * 16777216 + b * 1048576 + i % 1048576) w (by omega) (by omega) (by omega)
    obtain ⟨d1, d1'⟩ := dig24 (8 + op) a (b * 1048576 + i % 1048576) w (by omega) (by omega) (by omega) (by omega) (by omega)
    obtain ⟨d2, d2'⟩ := dig20 (8 + op) a b (i % 1048576) w (by omega) (by omega) (by omega) (by omega) (by omega) (by omega) (by omega)
    unfold guess
    rw [t0, t1, t2, d1, d2, d2', if_neg (by omega), if_neg (by omega), if_pos (by omega)]
    refine ins_ext rfl (by simp only; omega) rfl rfl rfl ?_ rfl
    simp only [sx]
    split <;> omega
  · obtain ⟨o0, o1, rfl, rfl, rfl⟩ := h
    have B0 := bit_lo u
    have B1 := bit_hi u
    have hB := bit_one u
    obtain ⟨B, hb⟩ : ∃ B, bit u = B := ⟨_, rfl⟩
    rw [hb] at B0 B1 hB
    have hw : word ⟨6, op, 0, 0, c, 0, u⟩ = (12 + B) * 268435456 + op * 16777216 + c := by simp [word, hb]; omega
    generalize word ⟨6, op, 0, 0, c, 0, u⟩ = w at hw
    obtain ⟨t0, t1, t2, t3⟩ := top (12 + B) (op * 16777216 + c) w (by omega) (by omega) (by omega)
    obtain ⟨d1, d1'⟩ := dig24 (12 + B) op c w (by omega) (by omega) (by omega) (by omega) (by omega)
    unfold guess
    rw [t0, t1, t2, d1, if_neg (by omega), if_neg (by omega), if_neg (by omega), if_neg (by omega)]
    exact ins_ext rfl rfl rfl rfl (by simp only; omega) rfl (by rw [← hB]; simp only; congr 1; rw [eq_iff_iff]; omega)
  · obtain ⟨o0, o1, rfl, rfl, rfl, i0, i1⟩ := h
    have B0 := bit_lo u
    have B1 := bit_hi u
    have hB := bit_one u
    obtain ⟨B, hb⟩ : ∃ B, bit u = B := ⟨_, rfl⟩
    rw [hb] at B0 B1 hB
    have hw : word ⟨7, op, 0, 0, 0, i, u⟩ = (14 + B) * 268435456 + op * 16777216 + i % 16777216 := by simp [word, hb]; omega
    generalize word ⟨7, op, 0, 0, 0, i, u⟩ = w at hw
    obtain ⟨t0, t1, t2, t3⟩ := top (14 + B) (op * 16777216 + i % 16777216) w (by omega) (by omega) (by omega)
    obtain ⟨d1, d1'⟩ := dig24 (14 + B) op (i % 16777216) w (by omega) (by omega) (by omega) (by omega) (by omega)
    unfold guess
    rw [t0, t1, t2, d1, d1', if_neg (by omega), if_neg (by omega), if_neg (by omega), if_pos (by omega)]
    refine ins_ext rfl rfl rfl rfl rfl ?_ (by rw [← hB]; simp only; congr 1; rw [eq_iff_iff]; omega)
    simp only [sx]
    split <;> omega
theorem is_word (x : Ins) (h : May x) : is (word x) = true := by
  unfold is; rw [guess_word x h]; simp [may, h]
theorem dec_word (x : Ins) (h : May x) : dec (word x) = x := by
  unfold dec; rw [is_word x h, guess_word x h]; rfl
theorem word_inj (x y : Ins) (hx : May x) (hy : May y) (h : word x = word y) : x = y := by
  rw [← guess_word x hx, ← guess_word y hy, h]
end I
end Go.Proofs.YtkkoihhkfophnaaDoor
