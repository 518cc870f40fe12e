/-
  The contracts of Taken, of the document's Taken, Show and bit, and of the document's example.
-/
import Derived.Test.YtghjdpmijnlhjaaAlu6
namespace Go.Proofs.Ytghjdpmijnlhjaa
open Go.RowKit
set_option linter.unusedVariables false
set_option linter.unusedSimpArgs false
namespace A
@[simp] theorem cell_r0 (s : Regs) : (cells s)[0]? = some (.int .u32 (s.r 0)) := rfl
@[simp] theorem cell_r1 (s : Regs) : (cells s)[1]? = some (.int .u32 (s.r 1)) := rfl
@[simp] theorem cell_r2 (s : Regs) : (cells s)[2]? = some (.int .u32 (s.r 2)) := rfl
@[simp] theorem cell_r3 (s : Regs) : (cells s)[3]? = some (.int .u32 (s.r 3)) := rfl
@[simp] theorem cell_r4 (s : Regs) : (cells s)[4]? = some (.int .u32 (s.r 4)) := rfl
@[simp] theorem cell_r5 (s : Regs) : (cells s)[5]? = some (.int .u32 (s.r 5)) := rfl
@[simp] theorem cell_r6 (s : Regs) : (cells s)[6]? = some (.int .u32 (s.r 6)) := rfl
@[simp] theorem cell_r7 (s : Regs) : (cells s)[7]? = some (.int .u32 (s.r 7)) := rfl
@[simp] theorem cell_r8 (s : Regs) : (cells s)[8]? = some (.int .u32 (s.r 8)) := rfl
@[simp] theorem cell_r9 (s : Regs) : (cells s)[9]? = some (.int .u32 (s.r 9)) := rfl
@[simp] theorem cell_r10 (s : Regs) : (cells s)[10]? = some (.int .u32 (s.r 10)) := rfl
@[simp] theorem cell_r11 (s : Regs) : (cells s)[11]? = some (.int .u32 (s.r 11)) := rfl
@[simp] theorem cell_r12 (s : Regs) : (cells s)[12]? = some (.int .u32 (s.r 12)) := rfl
@[simp] theorem cell_r13 (s : Regs) : (cells s)[13]? = some (.int .u32 (s.r 13)) := rfl
@[simp] theorem cell_r14 (s : Regs) : (cells s)[14]? = some (.int .u32 (s.r 14)) := rfl
@[simp] theorem cell_r15 (s : Regs) : (cells s)[15]? = some (.int .u32 (s.r 15)) := rfl
@[simp] theorem set_r0 (s : Regs) (x : Int) : (cells s).setIfInBounds 0 (.int .u32 x) = cells (set s 0 x) := rfl
@[simp] theorem set_r1 (s : Regs) (x : Int) : (cells s).setIfInBounds 1 (.int .u32 x) = cells (set s 1 x) := rfl
@[simp] theorem set_r2 (s : Regs) (x : Int) : (cells s).setIfInBounds 2 (.int .u32 x) = cells (set s 2 x) := rfl
@[simp] theorem set_r3 (s : Regs) (x : Int) : (cells s).setIfInBounds 3 (.int .u32 x) = cells (set s 3 x) := rfl
@[simp] theorem set_r4 (s : Regs) (x : Int) : (cells s).setIfInBounds 4 (.int .u32 x) = cells (set s 4 x) := rfl
@[simp] theorem set_r5 (s : Regs) (x : Int) : (cells s).setIfInBounds 5 (.int .u32 x) = cells (set s 5 x) := rfl
@[simp] theorem set_r6 (s : Regs) (x : Int) : (cells s).setIfInBounds 6 (.int .u32 x) = cells (set s 6 x) := rfl
@[simp] theorem set_r7 (s : Regs) (x : Int) : (cells s).setIfInBounds 7 (.int .u32 x) = cells (set s 7 x) := rfl
@[simp] theorem set_r8 (s : Regs) (x : Int) : (cells s).setIfInBounds 8 (.int .u32 x) = cells (set s 8 x) := rfl
@[simp] theorem set_r9 (s : Regs) (x : Int) : (cells s).setIfInBounds 9 (.int .u32 x) = cells (set s 9 x) := rfl
@[simp] theorem set_r10 (s : Regs) (x : Int) : (cells s).setIfInBounds 10 (.int .u32 x) = cells (set s 10 x) := rfl
@[simp] theorem set_r11 (s : Regs) (x : Int) : (cells s).setIfInBounds 11 (.int .u32 x) = cells (set s 11 x) := rfl
@[simp] theorem set_r12 (s : Regs) (x : Int) : (cells s).setIfInBounds 12 (.int .u32 x) = cells (set s 12 x) := rfl
@[simp] theorem set_r13 (s : Regs) (x : Int) : (cells s).setIfInBounds 13 (.int .u32 x) = cells (set s 13 x) := rfl
@[simp] theorem set_r14 (s : Regs) (x : Int) : (cells s).setIfInBounds 14 (.int .u32 x) = cells (set s 14 x) := rfl
@[simp] theorem set_r15 (s : Regs) (x : Int) : (cells s).setIfInBounds 15 (.int .u32 x) = cells (set s 15 x) := rfl
/-- which conditions hold, 0 to 7 -/
def hold (s : Regs) (j : Nat) : Bool := if j = 0 then s.n else if j = 1 then s.z else if j = 2 then s.c else if j = 3 then s.v else if j = 4 then s.c || s.z else if j = 5 then s.n != s.v else if j = 6 then (s.n != s.v) || s.z else true
/-- P4.3 -/
def taken (s : Regs) (c : Int) : Bool := if 0 ≤ c ∧ c < 8 then hold s c.toNat else if 8 ≤ c ∧ c < 16 then !hold s (c - 8).toNat else false
theorem taken_low (s : Regs) (c : Int) (h : c < 0) : taken s c = false := by
  unfold taken; rw [if_neg (by omega), if_neg (by omega)]
theorem taken_high (s : Regs) (c : Int) (h : 16 ≤ c) : taken s c = false := by
  unfold taken; rw [if_neg (by omega), if_neg (by omega)]
end A
set_option maxHeartbeats 1000000 in
theorem taken_any (s : A.Regs) (c : Int) (w : World) : Calls Try.prog 14 #[.agg (A.cells s), .int .i64 c] w fun e w' => e = .returned (.bool (A.taken s c)) ∧ Kept w w' := by
  rcases (show c < 0 ∨ 16 ≤ c ∨ (0 ≤ c ∧ c < 16) by omega) with h | h | ⟨h0, h1⟩
  · rw [A.taken_low s c h]
    go_enter Try.func14, Try.ntmps14
    go_wp2
    go_ret
    exact ⟨rfl, (Kept.refl w).alloc _ _⟩
  · rw [A.taken_high s c h]
    have h' : ¬ c < 0 := by omega
    go_enter Try.func14, Try.ntmps14
    go_wp2
    go_ret
    exact ⟨rfl, (Kept.refl w).alloc _ _⟩
  · obtain ⟨R, H, n, z, cc, v⟩ := s
    cases n <;> cases cc <;> cases v
    all_goals
      go_enter Try.func14, Try.ntmps14
      go_upto_region 5 with (fail)
      rcases (show c = 0 ∨ c = 1 ∨ c = 2 ∨ c = 3 ∨ c = 4 ∨ c = 5 ∨ c = 6 ∨ c = 7 ∨ c = 8 ∨ c = 9 ∨ c = 10 ∨ c = 11 ∨ c = 12 ∨ c = 13 ∨ c = 14 ∨ c = 15 by omega) with rfl | rfl | rfl | rfl | rfl | rfl | rfl | rfl | rfl | rfl | rfl | rfl | rfl | rfl | rfl | rfl
      all_goals
        go_wp2
        go_ret
        exact r1bk (by cases z <;> rfl) (((Kept.refl w).alloc _ _).alloc _ _)
set_option maxHeartbeats 1000000 in
theorem rtaken_any (s : A.Regs) (c : Int) (w : World) : Calls Try.prog 15 #[.agg (A.cells s), .int .i64 c] w fun e w' => e = .returned (.bool (A.taken s c)) ∧ Kept w w' := by
  rcases (show c < 0 ∨ 16 ≤ c ∨ (0 ≤ c ∧ c < 16) by omega) with h | h | ⟨h0, h1⟩
  · rw [A.taken_low s c h]
    go_enter Try.func15, Try.ntmps15
    go_wp2
    go_ret
    exact ⟨rfl, (Kept.refl w).alloc _ _⟩
  · rw [A.taken_high s c h]
    have h' : ¬ c < 0 := by omega
    go_enter Try.func15, Try.ntmps15
    go_wp2
    go_ret
    exact ⟨rfl, (Kept.refl w).alloc _ _⟩
  · obtain ⟨R, H, n, z, cc, v⟩ := s
    cases n <;> cases cc <;> cases v
    all_goals
      go_enter Try.func15, Try.ntmps15
      go_upto_region 4 with (fail)
      rcases (show c = 0 ∨ c = 1 ∨ c = 2 ∨ c = 3 ∨ c = 4 ∨ c = 5 ∨ c = 6 ∨ c = 7 ∨ c = 8 ∨ c = 9 ∨ c = 10 ∨ c = 11 ∨ c = 12 ∨ c = 13 ∨ c = 14 ∨ c = 15 by omega) with rfl | rfl | rfl | rfl | rfl | rfl | rfl | rfl | rfl | rfl | rfl | rfl | rfl | rfl | rfl | rfl
      all_goals
        go_wp2
        go_ret
        exact r1bk (by cases z <;> rfl) (((Kept.refl w).alloc _ _).alloc _ _)
theorem rshow_any (s : A.Regs) (x : Int) (h0 : 0 ≤ x) (h1 : x < 4294967296) (w : World) :
    Calls Try.prog 26 #[.agg (A.cells s), .int .u32 x] w fun e w' => e = .returned (.agg (A.cells (A.show' s x))) ∧ Kept w w' := by
  go_enter Try.func26, Try.ntmps26
  go_wp2_with (first
    | (with_reducible refine load_has rfl 25 _ rfl _ rfl ((Has.new _ _ _).alloc _) Try.underlying25 rfl (A.info25 _) ?_)
    | (with_reducible refine store_last rfl 25 _ _ rfl _ _ rfl rfl (by simp) (A.info25 _) (by kernel_rfl) (A.one_cells _) ?_))
  refine bodyPost_ret (results_has rfl (w.heap.size + 1) rfl (by have := Has.new (A.cells (A.setZ (A.setN s (decide (2147483648 ≤ x))) (x == 0))) 25 (w.alloc (Obj.cells (A.cells (A.setZ (A.setN s (decide (2147483648 ≤ x))) (x == 0))) 25)); simpa using this) Try.underlying25 rfl (A.info25 _)) rfl ⟨?_, ?_⟩
  · rfl
  · exact ((Kept.refl w).alloc _ _).alloc _ _
theorem rbit_f (k : Int) (w : World) : Calls Try.prog 20 #[.bool false, .int .i64 k] w fun e w' => e = .returned (.int .u32 0) ∧ w = w' := by
  go_enter Try.func20, Try.ntmps20
  go_wp2
  go_ret
  exact ⟨rfl, rfl⟩
theorem rbit_31 (b : Bool) (w : World) : Calls Try.prog 20 #[.bool b, .int .i64 31] w fun e w' => e = .returned (.int .u32 (if b then 2147483648 else 0)) ∧ w = w' := by
  cases b
  all_goals
    go_enter Try.func20, Try.ntmps20
    go_wp2
    go_ret
    exact ⟨rfl, rfl⟩
theorem rbit_30 (b : Bool) (w : World) : Calls Try.prog 20 #[.bool b, .int .i64 30] w fun e w' => e = .returned (.int .u32 (if b then 1073741824 else 0)) ∧ w = w' := by
  cases b
  all_goals
    go_enter Try.func20, Try.ntmps20
    go_wp2
    go_ret
    exact ⟨rfl, rfl⟩
theorem rbit_29 (b : Bool) (w : World) : Calls Try.prog 20 #[.bool b, .int .i64 29] w fun e w' => e = .returned (.int .u32 (if b then 536870912 else 0)) ∧ w = w' := by
  cases b
  all_goals
    go_enter Try.func20, Try.ntmps20
    go_wp2
    go_ret
    exact ⟨rfl, rfl⟩
theorem rbit_28 (b : Bool) (w : World) : Calls Try.prog 20 #[.bool b, .int .i64 28] w fun e w' => e = .returned (.int .u32 (if b then 268435456 else 0)) ∧ w = w' := by
  cases b
  all_goals
    go_enter Try.func20, Try.ntmps20
    go_wp2
    go_ret
    exact ⟨rfl, rfl⟩
end Go.Proofs.Ytghjdpmijnlhjaa
