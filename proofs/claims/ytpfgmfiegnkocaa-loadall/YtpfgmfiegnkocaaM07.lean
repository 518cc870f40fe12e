/-
  Joined: Ob5, Ob6.
-/
import Derived.Test.YtpfgmfiegnkocaaOb4
/-
  The contracts of slices.Equal at words, numbers and names.
-/
namespace Go.Proofs.Ytpfgmfiegnkocaa
open Go.RowKit
set_option linter.unusedVariables false
set_option linter.unusedSimpArgs false
set_option maxRecDepth 100000
set_option maxRecDepth 100000
theorem Ob.take_step {xs ys : List Ob.Y} {k : Nat} {p : Ob.Y} (h : xs.take k = ys.take k) (hx : xs[k]? = some p) (hy : ys[k]? = some p) : xs.take (k + 1) = ys.take (k + 1) := by
  rw [List.take_add_one, List.take_add_one, h, hx, hy]
theorem Ob.take_apart {xs ys : List Ob.Y} {k : Nat} {p q : Ob.Y} (hx : xs[k]? = some p) (hy : ys[k]? = some q) (hpq : p ≠ q) : xs ≠ ys := by
  intro e
  rw [e, hy] at hx
  cases hx
  exact hpq rfl
theorem Ob.eq_not {s t : ByteArray} {a d : Int} (h : ¬ (s, a) = (t, d)) : (s.toList == t.toList && a == d) = false := by
  cases q : s.toList == t.toList && a == d with
  | false => rfl
  | true =>
    rw [Bool.and_eq_true, beq_iff_eq, beq_iff_eq] at q
    exact absurd (by rw [Ob.toList_inj q.1, q.2]) h
theorem Ob.part_s (s : ByteArray) (a : Int) (w : World) : (part 9 #[.string s, .int .i64 a] 0).run Try.prog w = .ok (.string s) w := by
  have ha := run_isAgg Try.underlying9 w
  simp [part, Sem.run_bind, run_sizeOf (P := Try.prog) (e := 9) (m := 1) (by kernel_rfl), ha, TypeDesc.isRow]
theorem Ob.part_a (s : ByteArray) (a : Int) (w : World) : (part 3 #[.string s, .int .i64 a] 1).run Try.prog w = .ok (.int .i64 a) w := by
  have ha := run_isAgg Try.underlying3 w
  simp [part, Sem.run_bind, run_sizeOf (P := Try.prog) (e := 3) (m := 1) (by kernel_rfl), ha, TypeDesc.isRow]
theorem Ob.eqIn (d : Nat) (s t : ByteArray) (a b : Int) (w : World) : (Op.equalIn (d + 2) 69 (.agg #[.string s, .int .i64 a]) (.agg #[.string t, .int .i64 b])).run Try.prog w = .ok (s.toList == t.toList && a == b) w := by
  rw [run_equalIn_struct w (d + 1) 69 _ _ Try.underlying69 (by kernel_rfl)]
  simp only [Program.fieldsOf, Try.underlying69]
  simp only [Op.eqFields]
  rw [if_pos (by decide), if_pos (by decide)]
  simp only [Sem.run_bind, Ob.part_s, Ob.part_a, run_equalIn_string w d 9 s t Try.underlying9, run_equalIn_int w d 3 .i64 .i64 a b Try.underlying3, Result.andThen_ok]
  cases s.toList == t.toList <;> cases hab : a == b <;> simp [Sem.run_pure, Sem.run_bind, Ob.part_a, run_equalIn_int w d 3 .i64 .i64 a b Try.underlying3, Result.andThen_ok, hab]
theorem Ob.eq_run (s t : ByteArray) (a b : Int) (w : World) : (Op.equalIn 10000 69 (.agg #[.string s, .int .i64 a]) (.agg #[.string t, .int .i64 b])).run Try.prog w = .ok (s.toList == t.toList && a == b) w := Ob.eqIn 9998 s t a b w
end Go.Proofs.Ytpfgmfiegnkocaa
/-
  The contracts of object.Same and of the document's Same.
-/
namespace Go.Proofs.Ytpfgmfiegnkocaa
open Go.RowKit
set_option linter.unusedVariables false
set_option linter.unusedSimpArgs false
set_option maxRecDepth 100000
theorem Ob.all_take {xs ys : List Ob.Y} {j n : Nat} (h : xs.take j = ys.take j) (hx : xs.length = n) (hy : ys.length = n) (hj : ¬ j < n) : xs = ys := by
  rw [List.take_of_length_le (by omega), List.take_of_length_le (by omega)] at h
  exact h
end Go.Proofs.Ytpfgmfiegnkocaa
