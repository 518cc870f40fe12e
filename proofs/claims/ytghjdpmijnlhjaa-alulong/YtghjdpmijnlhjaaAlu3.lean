/-
  The contracts of divide and flags of package alu.
-/
import Derived.Test.YtghjdpmijnlhjaaAlu2
namespace Go.Proofs.Ytghjdpmijnlhjaa
open Go.RowKit
set_option linter.unusedVariables false
set_option linter.unusedSimpArgs false
theorem A.builtTrap : Try.prog.built 50 [(2, .int .i64 5)] = some (A.outc 0 A.none' 5) := by
  rw [built_of A.shapeOut]
  simp [Instr.fill, Value.cells, A.none', A.outc]
theorem divide_no (s : A.Regs) (b n : Int) (u : Bool) (h0 : 0 ≤ b) (h1 : b < 4294967296) (h2 : 0 ≤ n) (h3 : n < 4294967296) (hn : W.sgn n ≤ 0) (w : World) :
    Calls Try.prog 63 #[.agg (A.opnd s b n u)] w fun e w' => e = .returned (.agg (A.outc 0 A.none' 5)) ∧ Kept w w' := by
  go_enter Try.func63, Try.ntmps63
  go_wp2_with (first
    | ((with_reducible refine build_has (o := ⟨some 17, _, _, _, _, _⟩) rfl 50 _ rfl (A.outc 0 A.none' 5) ?hf17 ?_); (case hf17 => (go_simp; exact A.builtTrap)))
    | (with_reducible refine store_last (o := ⟨none, Op.store 50 _ _, _, _, _, _⟩) rfl 50 _ _ rfl _ _ rfl rfl (by simp) (A.infoOut _ _ _) (by kernel_rfl) (A.one_outc _ _ _) ?_)
    | (go_at_call 68; refine (div_no b n h0 h1 h2 h3 hn _).mono ?_; rintro e w2 ⟨rfl, rfl⟩))
  exact bodyPost_ret (results_has rfl (w.heap.size + 1) rfl (Has.new1 _ _ _ _) Try.underlying50 rfl (A.infoOut _ _ _)) rfl ⟨rfl, ((Kept.refl w).alloc _ _).alloc _ _⟩
theorem divide_yes (s : A.Regs) (b n : Int) (u : Bool) (h0 : 0 ≤ b) (h1 : b < 4294967296) (h2 : 0 ≤ n) (h3 : n < 4294967296) (hn : 0 < W.sgn n) (w : World) :
    Calls Try.prog 63 #[.agg (A.opnd s b n u)] w fun e w' => e = .returned (.agg (A.outc (W.low (W.sgn b / W.sgn n)) (A.setH s (W.low (W.sgn b % W.sgn n))) 0)) ∧ Kept w w' := by
  go_enter Try.func63, Try.ntmps63
  go_wp2_with (first
    | (with_reducible refine load_has (o := ⟨some 18, _, _, _, _, _⟩) rfl 53 _ rfl _ rfl ((Has.new _ _ _).alloc _).drew Try.underlying53 rfl (A.infoOp _ _ _ _) ?_)
    | (with_reducible refine store_has (o := ⟨none, Op.store 50 _ _, _, _, _, _⟩) rfl 50 _ _ rfl _ _ rfl rfl (by assumption) (A.infoOut _ _ _) (by kernel_rfl) (A.one_outc _ _ _) ?_)
    | (go_at_call 68; refine (div_yes b n h0 h1 h2 h3 hn _).mono ?_; rintro e w2 ⟨rfl, rfl⟩)
    | (go_at_call 61; (refine (withHigh_any _ _ _ _ _ _ _).mono ?_; rintro e w2 ⟨rfl, hK2⟩); (have hX := (Has.new1 _ _ _ _).drew.kept hK2); (have hK := ((((Kept.refl w).alloc _ _).alloc _ _).drew).trans hK2); clear hK2))
  exact bodyPost_ret (results_has rfl (w.heap.size + 1) rfl (hX.row _) Try.underlying50 rfl (A.infoOut _ _ _)) rfl ⟨rfl, hK.row (by omega) _⟩
/-- the flags, the first k of them -/
def A.fl (s : A.Regs) : Nat → Int
  | 0 => 0
  | 1 => if s.n then 2147483648 else 0
  | 2 => (if s.n then 2147483648 else 0) + (if s.z then 1073741824 else 0)
  | 3 => (if s.n then 2147483648 else 0) + (if s.z then 1073741824 else 0) + (if s.c then 536870912 else 0)
  | _ => (if s.n then 2147483648 else 0) + (if s.z then 1073741824 else 0) + (if s.c then 536870912 else 0) + (if s.v then 268435456 else 0)
def A.flg (s : A.Regs) : Int := A.fl s 4
theorem A.fl_lo (s : A.Regs) (k : Nat) : 0 ≤ A.fl s k := by
  unfold A.fl; split <;> (repeat' split) <;> omega
theorem A.fl_hi (s : A.Regs) (k : Nat) : A.fl s k < 4294967296 := by
  unfold A.fl; split <;> (repeat' split) <;> omega
theorem A.or0 (s : A.Regs) (h : s.n = true) : bits BinOp.or IntKind.u32 (A.fl s 0) 2147483648 = A.fl s 1 := by
  obtain ⟨r, h', n, z, c, v⟩ := s
  cases n <;> cases z <;> cases c <;> cases v <;> first | (simp at h; done) | (simp only [A.fl, if_true, Bool.false_eq_true, if_false]; decide)
theorem A.no0 (s : A.Regs) (h : s.n = false) : A.fl s 0 = A.fl s 1 := by
  obtain ⟨r, h', n, z, c, v⟩ := s
  cases n <;> cases z <;> cases c <;> cases v <;> first | (simp at h; done) | rfl
theorem A.or1 (s : A.Regs) (h : s.z = true) : bits BinOp.or IntKind.u32 (A.fl s 1) 1073741824 = A.fl s 2 := by
  obtain ⟨r, h', n, z, c, v⟩ := s
  cases n <;> cases z <;> cases c <;> cases v <;> first | (simp at h; done) | (simp only [A.fl, if_true, Bool.false_eq_true, if_false]; decide)
theorem A.no1 (s : A.Regs) (h : s.z = false) : A.fl s 1 = A.fl s 2 := by
  obtain ⟨r, h', n, z, c, v⟩ := s
  cases n <;> cases z <;> cases c <;> cases v <;> first | (simp at h; done) | rfl
theorem A.or2 (s : A.Regs) (h : s.c = true) : bits BinOp.or IntKind.u32 (A.fl s 2) 536870912 = A.fl s 3 := by
  obtain ⟨r, h', n, z, c, v⟩ := s
  cases n <;> cases z <;> cases c <;> cases v <;> first | (simp at h; done) | (simp only [A.fl, if_true, Bool.false_eq_true, if_false]; decide)
theorem A.no2 (s : A.Regs) (h : s.c = false) : A.fl s 2 = A.fl s 3 := by
  obtain ⟨r, h', n, z, c, v⟩ := s
  cases n <;> cases z <;> cases c <;> cases v <;> first | (simp at h; done) | rfl
theorem A.or3 (s : A.Regs) (h : s.v = true) : bits BinOp.or IntKind.u32 (A.fl s 3) 268435456 = A.fl s 4 := by
  obtain ⟨r, h', n, z, c, v⟩ := s
  cases n <;> cases z <;> cases c <;> cases v <;> first | (simp at h; done) | (simp only [A.fl, if_true, Bool.false_eq_true, if_false]; decide)
theorem A.no3 (s : A.Regs) (h : s.v = false) : A.fl s 3 = A.fl s 4 := by
  obtain ⟨r, h', n, z, c, v⟩ := s
  cases n <;> cases z <;> cases c <;> cases v <;> first | (simp at h; done) | rfl
def A.FlRel (s : A.Regs) (x i : Value) : Prop := (i = .int .i64 0 ∧ x = .int .u32 (A.fl s 0)) ∨ (i = .int .i64 1 ∧ x = .int .u32 (A.fl s 1)) ∨ (i = .int .i64 2 ∧ x = .int .u32 (A.fl s 2)) ∨ (i = .int .i64 3 ∧ x = .int .u32 (A.fl s 3)) ∨ (i = .int .i64 4 ∧ x = .int .u32 (A.fl s 4))
theorem A.at0 (p q r t : Value) : (#[p, q, r, t] : Array Value)[Int.toNat 0]? = some p := rfl
theorem A.at1 (p q r t : Value) : (#[p, q, r, t] : Array Value)[Int.toNat 1]? = some q := rfl
theorem A.at2 (p q r t : Value) : (#[p, q, r, t] : Array Value)[Int.toNat 2]? = some r := rfl
theorem A.at3 (p q r t : Value) : (#[p, q, r, t] : Array Value)[Int.toNat 3]? = some t := rfl
set_option maxHeartbeats 2000000 in
theorem flags_any (s : A.Regs) (b n : Int) (u : Bool) (w : World) :
    Calls Try.prog 29 #[.agg (A.opnd s b n u)] w fun e w' => e = .returned (.agg (A.outc (A.flg s) s 0)) ∧ Kept w w' := by
  have l0 := A.fl_lo s 0
  have l1 := A.fl_lo s 1
  have l2 := A.fl_lo s 2
  have l3 := A.fl_lo s 3
  have g0 := A.fl_hi s 0
  have g1 := A.fl_hi s 1
  have g2 := A.fl_hi s 2
  have g3 := A.fl_hi s 3
  have e0 := Lib.hid (A.or0 s)
  have e1 := Lib.hid (A.or1 s)
  have e2 := Lib.hid (A.or2 s)
  have e3 := Lib.hid (A.or3 s)
  have d0 := Lib.hid (A.no0 s)
  have d1 := Lib.hid (A.no1 s)
  have d2 := Lib.hid (A.no2 s)
  have d3 := Lib.hid (A.no3 s)
  go_enter Try.func29, Try.ntmps29
  go_wp2_with fail
  go_loop [3, 19] (fun x i => A.FlRel s x i) (fun _ i => 4 - (intOf i).toNat)
  case atStart => exact Or.inl ⟨rfl, rfl⟩
  case round =>
    rcases hrel with ⟨rfl, rfl⟩ | ⟨rfl, rfl⟩ | ⟨rfl, rfl⟩ | ⟨rfl, rfl⟩ | ⟨rfl, rfl⟩
    · by_cases hb : s.n = true
      · have E := Lib.hid (e0.out hb)
        go_wp2_with (first | (with_reducible refine index_cell (o := ⟨some 22, _, _, _, _, _⟩) rfl 70 _ _ rfl _ _ _ rfl rfl Try.underlying70 (by decide) (by decide) Try.underlying4 rfl (by kernel_rfl) (A.at0 _ _ _ _) ?_))
        go_round
        case rel => exact ⟨_, _, _, _, Or.inr (Or.inl ⟨rfl, rfl⟩), by rw [E.out], rfl, rfl, rfl⟩
        case measure => simp [intOf]
      · have hb' : s.n = false := by simpa using hb
        have E := Lib.hid (d0.out hb')
        clear hb
        go_wp2_with (first | (with_reducible refine index_cell (o := ⟨some 22, _, _, _, _, _⟩) rfl 70 _ _ rfl _ _ _ rfl rfl Try.underlying70 (by decide) (by decide) Try.underlying4 rfl (by kernel_rfl) (A.at0 _ _ _ _) ?_))
        go_round
        case rel => exact ⟨_, _, _, _, Or.inr (Or.inl ⟨rfl, rfl⟩), by rw [E.out], rfl, rfl, rfl⟩
        case measure => simp [intOf]
    · by_cases hb : s.z = true
      · have E := Lib.hid (e1.out hb)
        go_wp2_with (first | (with_reducible refine index_cell (o := ⟨some 22, _, _, _, _, _⟩) rfl 70 _ _ rfl _ _ _ rfl rfl Try.underlying70 (by decide) (by decide) Try.underlying4 rfl (by kernel_rfl) (A.at1 _ _ _ _) ?_))
        go_round
        case rel => exact ⟨_, _, _, _, Or.inr (Or.inr (Or.inl ⟨rfl, rfl⟩)), by rw [E.out], rfl, rfl, rfl⟩
        case measure => simp [intOf]
      · have hb' : s.z = false := by simpa using hb
        have E := Lib.hid (d1.out hb')
        clear hb
        go_wp2_with (first | (with_reducible refine index_cell (o := ⟨some 22, _, _, _, _, _⟩) rfl 70 _ _ rfl _ _ _ rfl rfl Try.underlying70 (by decide) (by decide) Try.underlying4 rfl (by kernel_rfl) (A.at1 _ _ _ _) ?_))
        go_round
        case rel => exact ⟨_, _, _, _, Or.inr (Or.inr (Or.inl ⟨rfl, rfl⟩)), by rw [E.out], rfl, rfl, rfl⟩
        case measure => simp [intOf]
    · by_cases hb : s.c = true
      · have E := Lib.hid (e2.out hb)
        go_wp2_with (first | (with_reducible refine index_cell (o := ⟨some 22, _, _, _, _, _⟩) rfl 70 _ _ rfl _ _ _ rfl rfl Try.underlying70 (by decide) (by decide) Try.underlying4 rfl (by kernel_rfl) (A.at2 _ _ _ _) ?_))
        go_round
        case rel => exact ⟨_, _, _, _, Or.inr (Or.inr (Or.inr (Or.inl ⟨rfl, rfl⟩))), by rw [E.out], rfl, rfl, rfl⟩
        case measure => simp [intOf]
      · have hb' : s.c = false := by simpa using hb
        have E := Lib.hid (d2.out hb')
        clear hb
        go_wp2_with (first | (with_reducible refine index_cell (o := ⟨some 22, _, _, _, _, _⟩) rfl 70 _ _ rfl _ _ _ rfl rfl Try.underlying70 (by decide) (by decide) Try.underlying4 rfl (by kernel_rfl) (A.at2 _ _ _ _) ?_))
        go_round
        case rel => exact ⟨_, _, _, _, Or.inr (Or.inr (Or.inr (Or.inl ⟨rfl, rfl⟩))), by rw [E.out], rfl, rfl, rfl⟩
        case measure => simp [intOf]
    · by_cases hb : s.v = true
      · have E := Lib.hid (e3.out hb)
        go_wp2_with (first | (with_reducible refine index_cell (o := ⟨some 22, _, _, _, _, _⟩) rfl 70 _ _ rfl _ _ _ rfl rfl Try.underlying70 (by decide) (by decide) Try.underlying4 rfl (by kernel_rfl) (A.at3 _ _ _ _) ?_))
        go_round
        case rel => exact ⟨_, _, _, _, Or.inr (Or.inr (Or.inr (Or.inr ⟨rfl, rfl⟩))), by rw [E.out], rfl, rfl, rfl⟩
        case measure => simp [intOf]
      · have hb' : s.v = false := by simpa using hb
        have E := Lib.hid (d3.out hb')
        clear hb
        go_wp2_with (first | (with_reducible refine index_cell (o := ⟨some 22, _, _, _, _, _⟩) rfl 70 _ _ rfl _ _ _ rfl rfl Try.underlying70 (by decide) (by decide) Try.underlying4 rfl (by kernel_rfl) (A.at3 _ _ _ _) ?_))
        go_round
        case rel => exact ⟨_, _, _, _, Or.inr (Or.inr (Or.inr (Or.inr ⟨rfl, rfl⟩))), by rw [E.out], rfl, rfl, rfl⟩
        case measure => simp [intOf]
    · go_wp2_with (first
        | (with_reducible refine load_has (o := ⟨some 30, _, _, _, _, _⟩) rfl 53 _ rfl _ rfl ((Has.new _ _ _).alloc _) Try.underlying53 rfl (A.infoOp _ _ _ _) ?_)
        | (with_reducible refine store_has (o := ⟨none, Op.store 50 _ _, _, _, _, _⟩) rfl 50 _ _ rfl _ _ rfl rfl (by assumption) (A.infoOut _ _ _) (by kernel_rfl) (A.one_outc _ _ _) ?_)
        | (go_at_call 40; (refine (just_any _ _ _ _ _ _).mono ?_; rintro e w2 ⟨rfl, hK2⟩); (have hX := (Has.new1 _ _ _ _).kept hK2); (have hK := (((Kept.refl w).alloc _ _).alloc _ _).trans hK2); clear hK2))
      exact bodyPost_ret (results_has rfl (w.heap.size + 1) rfl (hX.row _) Try.underlying50 rfl (A.infoOut _ _ _)) rfl ⟨rfl, hK.row (by omega) _⟩
end Go.Proofs.Ytghjdpmijnlhjaa
