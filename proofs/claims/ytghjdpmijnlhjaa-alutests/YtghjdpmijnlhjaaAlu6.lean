/-
  What an operation does, as plain data; alu.Do does it.
-/
import Derived.Test.YtghjdpmijnlhjaaAlu5
import Derived.Laws.BitsAllLaws
namespace Go.Proofs.Ytghjdpmijnlhjaa
open Go.RowKit
set_option linter.unusedVariables false
set_option linter.unusedSimpArgs false
namespace A
def num (s : Regs) (x : I.Ins) : Int := if x.k = 2 then x.i % 4294967296 else s.r x.c.toNat
/-- the rows of the table of P4.2 -/
def work (op : Nat) (s : Regs) (b n : Int) (u : Bool) : Int × Regs :=
  if op = 0 then (if u then n * 65536 % 4294967296 else n, s)
  else if op = 1 then (W.shift 1 b n, s)
  else if op = 2 then (W.shift 2 b n, s)
  else if op = 3 then (W.shift 3 b n, s)
  else if op = 4 then (bits BinOp.and IntKind.u32 b n, s)
  else if op = 5 then (bits BinOp.andNot IntKind.u32 b n, s)
  else if op = 6 then (bits BinOp.or IntKind.u32 b n, s)
  else if op = 7 then (bits BinOp.xor IntKind.u32 b n, s)
  else if op = 8 then (W.low (b + n + W.one (u && s.c)), setV (setC s (W.over (b + n + W.one (u && s.c)))) (!W.inS (W.sgn b + W.sgn n + W.one (u && s.c))))
  else if op = 9 then (W.low (b - n - W.one (u && s.c)), setV (setC s (W.neg (b - n - W.one (u && s.c)))) (!W.inS (W.sgn b - W.sgn n - W.one (u && s.c))))
  else if op = 10 then (W.low (W.prod u b n), setH s (W.low (W.prod u b n / 4294967296)))
  else (W.low (W.sgn b / W.sgn n), setH s (W.low (W.sgn b % W.sgn n)))
def res (s : Regs) (x : I.Ins) : Int × Regs := if x.k = 3 then (s.h, s) else if x.k = 4 then (flg s, s) else work x.op.toNat s (s.r x.b.toNat) (num s x) x.u
def Traps (s : Regs) (x : I.Ins) : Prop := (x.k = 1 ∨ x.k = 2) ∧ x.op = 11 ∧ W.sgn (num s x) ≤ 0
/-- Do, of an operation that does not trap -/
def done (s : Regs) (x : I.Ins) : Regs := show' (set (res s x).2 x.a.toNat (res s x).1) (res s x).1
theorem bits_lo (o : BinOp) (a b : Int) (h : o = .and ∨ o = .or ∨ o = .xor ∨ o = .andNot) (h0 : 0 ≤ a) (h1 : a < 4294967296) (h2 : 0 ≤ b) (h3 : b < 4294967296) : 0 ≤ bits o .u32 a b ∧ bits o .u32 a b < 4294967296 := by
  have ha : a.toNat < 2 ^ 32 := by omega
  have hb : b.toNat < 2 ^ 32 := by omega
  have hc : 4294967295 - b.toNat < 2 ^ 32 := by omega
  rcases h with rfl | rfl | rfl | rfl
  · rw [u32_and a b h0 h1 h2 h3]; have := Nat.and_lt_two_pow a.toNat hb; omega
  · rw [u32_or a b h0 h1 h2 h3]; have := Nat.or_lt_two_pow ha hb; omega
  · rw [u32_xor a b h0 h1 h2 h3]; have := Nat.xor_lt_two_pow ha hb; omega
  · rw [u32_andNot a b h0 h1 h2 h3]; have := Nat.and_lt_two_pow a.toNat hc; omega
theorem shift_lo (k a n : Int) (h0 : 0 ≤ a) (h1 : a < 4294967296) : 0 ≤ W.shift k a n ∧ W.shift k a n < 4294967296 := ⟨W.shift_lo k a n h0 h1, W.shift_hi k a n h0 h1⟩
theorem num_ok (s : Regs) (x : I.Ins) (hs : Ok s) (hc : 0 ≤ x.c) (hc1 : x.c ≤ 15) : 0 ≤ num s x ∧ num s x < 4294967296 := by
  unfold num; split
  · omega
  · exact hs.1 _ (by omega)
theorem work_0 (s : Regs) (b n : Int) (u : Bool) : work 0 s b n u = (if u then n * 65536 % 4294967296 else n, s) := rfl
theorem work_1 (s : Regs) (b n : Int) (u : Bool) : work 1 s b n u = (W.shift 1 b n, s) := rfl
theorem work_2 (s : Regs) (b n : Int) (u : Bool) : work 2 s b n u = (W.shift 2 b n, s) := rfl
theorem work_3 (s : Regs) (b n : Int) (u : Bool) : work 3 s b n u = (W.shift 3 b n, s) := rfl
theorem work_4 (s : Regs) (b n : Int) (u : Bool) : work 4 s b n u = (bits BinOp.and IntKind.u32 b n, s) := rfl
theorem work_5 (s : Regs) (b n : Int) (u : Bool) : work 5 s b n u = (bits BinOp.andNot IntKind.u32 b n, s) := rfl
theorem work_6 (s : Regs) (b n : Int) (u : Bool) : work 6 s b n u = (bits BinOp.or IntKind.u32 b n, s) := rfl
theorem work_7 (s : Regs) (b n : Int) (u : Bool) : work 7 s b n u = (bits BinOp.xor IntKind.u32 b n, s) := rfl
theorem work_8 (s : Regs) (b n : Int) (u : Bool) : work 8 s b n u = (W.low (b + n + W.one (u && s.c)), setV (setC s (W.over (b + n + W.one (u && s.c)))) (!W.inS (W.sgn b + W.sgn n + W.one (u && s.c)))) := rfl
theorem work_9 (s : Regs) (b n : Int) (u : Bool) : work 9 s b n u = (W.low (b - n - W.one (u && s.c)), setV (setC s (W.neg (b - n - W.one (u && s.c)))) (!W.inS (W.sgn b - W.sgn n - W.one (u && s.c)))) := rfl
theorem work_10 (s : Regs) (b n : Int) (u : Bool) : work 10 s b n u = (W.low (W.prod u b n), setH s (W.low (W.prod u b n / 4294967296))) := rfl
theorem work_div (op : Nat) (h : 11 ≤ op) (s : Regs) (b n : Int) (u : Bool) : work op s b n u = (W.low (W.sgn b / W.sgn n), setH s (W.low (W.sgn b % W.sgn n))) := by
  unfold work
  rw [if_neg (by omega), if_neg (by omega), if_neg (by omega), if_neg (by omega), if_neg (by omega), if_neg (by omega), if_neg (by omega), if_neg (by omega), if_neg (by omega), if_neg (by omega), if_neg (by omega)]
theorem ops12 (op : Nat) : op = 0 ∨ op = 1 ∨ op = 2 ∨ op = 3 ∨ op = 4 ∨ op = 5 ∨ op = 6 ∨ op = 7 ∨ op = 8 ∨ op = 9 ∨ op = 10 ∨ 11 ≤ op := by omega
theorem work_ok (op : Nat) (s : Regs) (b n : Int) (u : Bool) (h0 : 0 ≤ b) (h1 : b < 4294967296) (h2 : 0 ≤ n) (h3 : n < 4294967296) : 0 ≤ (work op s b n u).1 ∧ (work op s b n u).1 < 4294967296 := by
  rcases ops12 op with rfl | rfl | rfl | rfl | rfl | rfl | rfl | rfl | rfl | rfl | rfl | h
  · rw [work_0]; simp only; split <;> omega
  · rw [work_1]; exact shift_lo 1 b n h0 h1
  · rw [work_2]; exact shift_lo 2 b n h0 h1
  · rw [work_3]; exact shift_lo 3 b n h0 h1
  · rw [work_4]; exact bits_lo .and b n (by simp) h0 h1 h2 h3
  · rw [work_5]; exact bits_lo .andNot b n (by simp) h0 h1 h2 h3
  · rw [work_6]; exact bits_lo .or b n (by simp) h0 h1 h2 h3
  · rw [work_7]; exact bits_lo .xor b n (by simp) h0 h1 h2 h3
  · rw [work_8]; exact ⟨W.low_lo _, W.low_hi _⟩
  · rw [work_9]; exact ⟨W.low_lo _, W.low_hi _⟩
  · rw [work_10]; exact ⟨W.low_lo _, W.low_hi _⟩
  · rw [work_div op h]; exact ⟨W.low_lo _, W.low_hi _⟩
theorem work_regs (op : Nat) (s : Regs) (b n : Int) (u : Bool) (hs : Ok s) : Ok (work op s b n u).2 := by
  rcases ops12 op with rfl | rfl | rfl | rfl | rfl | rfl | rfl | rfl | rfl | rfl | rfl | h
  · rw [work_0]; exact hs
  · rw [work_1]; exact hs
  · rw [work_2]; exact hs
  · rw [work_3]; exact hs
  · rw [work_4]; exact hs
  · rw [work_5]; exact hs
  · rw [work_6]; exact hs
  · rw [work_7]; exact hs
  · rw [work_8]; exact hs
  · rw [work_9]; exact hs
  · rw [work_10]; exact ⟨hs.1, W.low_lo _, W.low_hi _⟩
  · rw [work_div op h]; exact ⟨hs.1, W.low_lo _, W.low_hi _⟩
theorem res_ok (s : Regs) (x : I.Ins) (hs : Ok s) (h : I.May x) : (0 ≤ (res s x).1 ∧ (res s x).1 < 4294967296) ∧ Ok (res s x).2 := by
  have hm := h.1
  unfold res
  split
  · exact ⟨hs.2, hs⟩
  split
  · exact ⟨⟨fl_lo s 4, fl_hi s 4⟩, hs⟩
  · have hb := hs.1 x.b.toNat (by omega)
    have hn := num_ok s x hs hm.2.2.2.2.1 hm.2.2.2.2.2
    exact ⟨work_ok _ _ _ _ _ hb.1 hb.2 hn.1 hn.2, work_regs _ _ _ _ _ hs⟩
theorem ok_set (s : Regs) (j : Nat) (x : Int) (hs : Ok s) (h0 : 0 ≤ x) (h1 : x < 4294967296) : Ok (set s j x) := by
  refine ⟨fun k hk => ?_, hs.2⟩
  unfold set; simp only
  split
  · exact ⟨h0, h1⟩
  · exact hs.1 k hk
theorem ok_show (s : Regs) (x : Int) (hs : Ok s) : Ok (show' s x) := hs
theorem done_ok (s : Regs) (x : I.Ins) (hs : Ok s) (h : I.May x) : Ok (done s x) := by
  have h1 := res_ok s x hs h
  exact ok_show _ _ (ok_set _ _ _ h1.2 h1.1.1 h1.1.2)
end A
theorem callsRow (op : Nat) (hop : op < 12) : ∀ args w, (callFunc (A.fn op) args).run Try.prog w = .ok (.enter (A.fn op) args) w := by
  have : op = 0 ∨ op = 1 ∨ op = 2 ∨ op = 3 ∨ op = 4 ∨ op = 5 ∨ op = 6 ∨ op = 7 ∨ op = 8 ∨ op = 9 ∨ op = 10 ∨ op = 11 := by omega
  rcases this with rfl | rfl | rfl | rfl | rfl | rfl | rfl | rfl | rfl | rfl | rfl | rfl
  · exact callsFn Try.func45 (by kernel_rfl) (by kernel_rfl)
  · exact callsFn Try.func46 (by kernel_rfl) (by kernel_rfl)
  · exact callsFn Try.func48 (by kernel_rfl) (by kernel_rfl)
  · exact callsFn Try.func49 (by kernel_rfl) (by kernel_rfl)
  · exact callsFn Try.func50 (by kernel_rfl) (by kernel_rfl)
  · exact callsFn Try.func51 (by kernel_rfl) (by kernel_rfl)
  · exact callsFn Try.func52 (by kernel_rfl) (by kernel_rfl)
  · exact callsFn Try.func53 (by kernel_rfl) (by kernel_rfl)
  · exact callsFn Try.func54 (by kernel_rfl) (by kernel_rfl)
  · exact callsFn Try.func58 (by kernel_rfl) (by kernel_rfl)
  · exact callsFn Try.func60 (by kernel_rfl) (by kernel_rfl)
  · exact callsFn Try.func63 (by kernel_rfl) (by kernel_rfl)
theorem callsHigh : ∀ args w, (callFunc 28 args).run Try.prog w = .ok (.enter 28 args) w := callsFn Try.func28 (by kernel_rfl) (by kernel_rfl)
theorem callsFlags : ∀ args w, (callFunc 29 args).run Try.prog w = .ok (.enter 29 args) w := callsFn Try.func29 (by kernel_rfl) (by kernel_rfl)
theorem work_any (op : Nat) (hop : op < 12) (s : A.Regs) (b n : Int) (u : Bool) (h0 : 0 ≤ b) (h1 : b < 4294967296) (h2 : 0 ≤ n) (h3 : n < 4294967296) (hd : op = 11 → 0 < W.sgn n) (w : World) :
    Calls Try.prog (A.fn op) #[.agg (A.opnd s b n u)] w fun e w' => e = .returned (.agg (A.outc (A.work op s b n u).1 (A.work op s b n u).2 0)) ∧ Kept w w' := by
  have : op = 0 ∨ op = 1 ∨ op = 2 ∨ op = 3 ∨ op = 4 ∨ op = 5 ∨ op = 6 ∨ op = 7 ∨ op = 8 ∨ op = 9 ∨ op = 10 ∨ op = 11 := by omega
  rcases this with rfl | rfl | rfl | rfl | rfl | rfl | rfl | rfl | rfl | rfl | rfl | rfl
  · cases u
    · exact move_f s b n h0 h1 h2 h3 w
    · exact move_t s b n h0 h1 h2 h3 w
  · exact shift_1 s b n u h0 h1 h2 h3 w
  · exact shift_2 s b n u h0 h1 h2 h3 w
  · exact shift_3 s b n u h0 h1 h2 h3 w
  · exact bit_and s b n u h0 h1 h2 h3 w
  · exact bit_andNot s b n u h0 h1 h2 h3 w
  · exact bit_or s b n u h0 h1 h2 h3 w
  · exact bit_xor s b n u h0 h1 h2 h3 w
  · exact add_work s b n u h0 h1 h2 h3 w
  · exact sub_work s b n u h0 h1 h2 h3 w
  · exact mul_work s b n u h0 h1 h2 h3 w
  · exact divide_yes s b n u h0 h1 h2 h3 (hd rfl) w
/-- nothing is done, and nothing traps -/
theorem do_no (s : A.Regs) (k op a b c i : Int) (u : Bool) (h : ¬ I.May ⟨k, op, a, b, c, i, u⟩ ∨ k = 5 ∨ k = 6 ∨ k = 7) (w : World) :
    Calls Try.prog 11 #[.agg (A.cells s), .agg #[.int .i64 k, .int .i64 op, .int .i64 a, .int .i64 b, .int .i64 c, .int .i64 i, .bool u]] w fun e w' => e = .returned (.tuple #[.agg (A.cells s), .int .i64 0]) ∧ Kept w w' := by
  by_cases hm : I.May ⟨k, op, a, b, c, i, u⟩
  · have hm' : I.may ⟨k, op, a, b, c, i, u⟩ = true := decide_eq_true hm
    rcases h with h | rfl | rfl | rfl
    · exact absurd hm h
    · exact do_none s 5 op a b c i u w (Lib.hid (opOf_5 op a b c i u hm'))
    · exact do_none s 6 op a b c i u w (Lib.hid (opOf_6 op a b c i u hm'))
    · exact do_none s 7 op a b c i u w (Lib.hid (opOf_7 op a b c i u hm'))
  · exact do_none s k op a b c i u w (Lib.hid (opOf_not k op a b c i u (decide_eq_false hm)))
/-- an operation that does not trap -/
theorem do_yes (s : A.Regs) (k op a b c i : Int) (u : Bool) (hs : A.Ok s) (hm : I.May ⟨k, op, a, b, c, i, u⟩) (hk : k = 1 ∨ k = 2 ∨ k = 3 ∨ k = 4) (ht : ¬ A.Traps s ⟨k, op, a, b, c, i, u⟩) (w : World) :
    Calls Try.prog 11 #[.agg (A.cells s), .agg #[.int .i64 k, .int .i64 op, .int .i64 a, .int .i64 b, .int .i64 c, .int .i64 i, .bool u]] w fun e w' => e = .returned (.tuple #[.agg (A.cells (A.done s ⟨k, op, a, b, c, i, u⟩)), .int .i64 0]) ∧ Kept w w' := by
  have hm' : I.may ⟨k, op, a, b, c, i, u⟩ = true := decide_eq_true hm
  have hr := A.res_ok s _ hs hm
  have hn := A.num_ok s _ hs hm.1.2.2.2.2.1 hm.1.2.2.2.2.2
  obtain ⟨⟨a0, a1, b0, b1, c0, c1⟩, hm2⟩ := hm
  simp only at a0 a1 b0 b1 c0 c1 hm2
  have hb := hs.1 b.toNat (by omega)
  rcases hk with rfl | rfl | rfl | rfl
  · have ho : 0 ≤ op ∧ op < 12 := by omega
    obtain ⟨o, rfl⟩ : ∃ o : Nat, op = o := ⟨op.toNat, by omega⟩
    have ho' : o < 12 := by omega
    exact do_ok s _ 1 o a b c i (s.r c.toNat) _ o u (A.fn o) a0 (by omega) b0 (by omega) hr.1.1 hr.1.2 w (Lib.hid (opOf_1 o a b c i u ho' hm')) (Lib.hid (number_reg s 1 o a b c i u rfl c0 (by omega))) (Lib.hid (callsRow o ho'))
      (Lib.hid (work_any o ho' s _ _ u hb.1 hb.2 hn.1 hn.2 (fun e => by
        subst e
        have : ¬ W.sgn (s.r c.toNat) ≤ 0 := fun h => ht ⟨Or.inl rfl, rfl, h⟩
        show 0 < W.sgn (s.r c.toNat)
        omega)))
  · have ho : 0 ≤ op ∧ op < 12 := by omega
    obtain ⟨o, rfl⟩ : ∃ o : Nat, op = o := ⟨op.toNat, by omega⟩
    have ho' : o < 12 := by omega
    exact do_ok s _ 2 o a b c i (i % 4294967296) _ o u (A.fn o) a0 (by omega) b0 (by omega) hr.1.1 hr.1.2 w (Lib.hid (opOf_2 o a b c i u ho' hm')) (Lib.hid (number_imm s o a b c i u)) (Lib.hid (callsRow o ho'))
      (Lib.hid (work_any o ho' s _ _ u hb.1 hb.2 hn.1 hn.2 (fun e => by
        subst e
        have : ¬ W.sgn (i % 4294967296) ≤ 0 := fun h => ht ⟨Or.inr rfl, rfl, h⟩
        show 0 < W.sgn (i % 4294967296)
        omega)))
  · exact do_ok s _ 3 op a b c i (s.r c.toNat) _ 0 u 28 a0 (by omega) b0 (by omega) hr.1.1 hr.1.2 w (Lib.hid (opOf_3 op a b c i u hm')) (Lib.hid (number_reg s 3 op a b c i u rfl c0 (by omega))) (Lib.hid callsHigh)
      (Lib.hid (high_any s _ _ u))
  · exact do_ok s _ 4 op a b c i (s.r c.toNat) _ 0 u 29 a0 (by omega) b0 (by omega) hr.1.1 hr.1.2 w (Lib.hid (opOf_4 op a b c i u hm')) (Lib.hid (number_reg s 4 op a b c i u rfl c0 (by omega))) (Lib.hid callsFlags)
      (Lib.hid (flags_any s _ _ u))
/-- a division that traps -/
theorem do_div (s : A.Regs) (k op a b c i : Int) (u : Bool) (hs : A.Ok s) (hm : I.May ⟨k, op, a, b, c, i, u⟩) (ht : A.Traps s ⟨k, op, a, b, c, i, u⟩) (w : World) :
    Calls Try.prog 11 #[.agg (A.cells s), .agg #[.int .i64 k, .int .i64 op, .int .i64 a, .int .i64 b, .int .i64 c, .int .i64 i, .bool u]] w fun e w' => e = .returned (.tuple #[.agg (A.cells s), .int .i64 5]) ∧ Kept w w' := by
  have hm' : I.may ⟨k, op, a, b, c, i, u⟩ = true := decide_eq_true hm
  have hn := A.num_ok s _ hs hm.1.2.2.2.2.1 hm.1.2.2.2.2.2
  obtain ⟨⟨a0, a1, b0, b1, c0, c1⟩, hm2⟩ := hm
  simp only at a0 a1 b0 b1 c0 c1 hm2
  have hb := hs.1 b.toNat (by omega)
  obtain ⟨hk, h11, hz⟩ := ht
  simp only at hk h11
  subst h11
  rcases hk with rfl | rfl
  · exact do_trap s _ 1 11 a b c i (s.r c.toNat) _ 11 u (A.fn 11) a0 (by omega) b0 (by omega) w (Lib.hid (opOf_1 11 a b c i u (by omega) hm')) (Lib.hid (number_reg s 1 11 a b c i u rfl c0 (by omega))) (Lib.hid (callsRow 11 (by omega))) (Lib.hid (divide_no s _ _ u hb.1 hb.2 hn.1 hn.2 hz))
  · exact do_trap s _ 2 11 a b c i (i % 4294967296) _ 11 u (A.fn 11) a0 (by omega) b0 (by omega) w (Lib.hid (opOf_2 11 a b c i u (by omega) hm')) (Lib.hid (number_imm s 11 a b c i u)) (Lib.hid (callsRow 11 (by omega))) (Lib.hid (divide_no s _ _ u hb.1 hb.2 hn.1 hn.2 hz))
end Go.Proofs.Ytghjdpmijnlhjaa
