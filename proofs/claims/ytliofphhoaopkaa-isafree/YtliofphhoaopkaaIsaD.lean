/-
  The law IsaFree, whole.
-/
import Derived.Test.YtliofphhoaopkaaIsaC
namespace Go.Proofs.Ytliofphhoaopkaa
open Go.RowKit
set_option linter.unusedVariables false
set_option linter.unusedSimpArgs false
theorem walk_Free (x : Int) (hx : U32 x) (w : World) : Calls Try.prog 10 #[.int .u32 x] w fun e w' => e = .returned (.bool true) ∧ Below w.heap.size w w' := by
  have x0 := hx.1
  have x1 := hx.2
  have A1 : bits .and .u32 x 1073741823 = x % 1073741824 := I.and_mask x hx 30 _ (by omega) rfl
  have A2 : bits .and .u32 x 536870911 = x % 536870912 := I.and_mask x hx 29 _ (by omega) rfl
  have E1 : bits .or .u32 (bits .and .u32 x 1073741823) 2147483648 = x % 1073741824 + 2147483648 := by
    rw [A1]; exact I.or_top _ _ 30 (by omega) (by omega) (by omega) (by omega) (by omega) (by omega)
  have E2 : bits .or .u32 (bits .and .u32 x 536870911) 3758096384 = x % 536870912 + 3758096384 := by
    rw [A2]; exact I.or_top _ _ 29 (by omega) (by omega) (by omega) (by omega) (by omega) (by omega)
  have h1 : (x % 1073741824 + 2147483648) / 1073741824 = 2 := by omega
  have h2 : (x % 536870912 + 3758096384) / 536870912 = 7 := by omega
  have q1 := I.free5 _ h1
  have q2 := I.free7 _ h2
  have C1 := dec_to (x % 1073741824 + 2147483648) _ _ _ _ _ _ _ ⟨by omega, by omega⟩ (I.is5 _ h1) q1
  have C2 := dec_to (x % 536870912 + 3758096384) _ _ _ _ _ _ _ ⟨by omega, by omega⟩ (I.is7 _ h2) q2
  have s0 := I.sx_lo 524288 ((x % 1073741824 + 2147483648) % 1048576) (by omega) (by omega)
  have s1 := I.sx_hi 524288 ((x % 1073741824 + 2147483648) % 1048576) (by omega) (by omega)
  have s2 := I.sx_mod 524288 ((x % 1073741824 + 2147483648) % 1048576) (by omega) (by omega)
  have t0 := I.sx_lo 8388608 ((x % 536870912 + 3758096384) % 16777216) (by omega) (by omega)
  have t1 := I.sx_hi 8388608 ((x % 536870912 + 3758096384) % 16777216) (by omega) (by omega)
  have t2 := I.sx_mod 8388608 ((x % 536870912 + 3758096384) % 16777216) (by omega) (by omega)
  clear q1 q2
  generalize I.sx 524288 ((x % 1073741824 + 2147483648) % 1048576) = i1 at *
  generalize I.sx 8388608 ((x % 536870912 + 3758096384) % 16777216) = i2 at *
  simp only [Int.reduceMul] at s2 t2
  refine walk_Free_at x _ _ _ _ (x % 1048576) _ _ (x % 16777216) _ _ _ hx w E1 E2 (Lib.hid C1) (Lib.hid C2) ?_ (by omega) (by omega) ?_ ?_ ?_ ?_ (by omega) (by omega) ?_ ?_ (by omega) (by omega) (by omega) (by omega)
  · rw [I.and_mask (x / 268435456) ⟨by omega, by omega⟩ 2 3 (by omega) rfl]; omega
  · rw [I.and_mask (i1 % 4294967296) ⟨by omega, by omega⟩ 20 1048575 (by omega) rfl]; omega
  · rw [I.and_mask x hx 20 1048575 (by omega) rfl]; omega
  · rw [I.and_mask (x / 268435456) ⟨by omega, by omega⟩ 1 1 (by omega) rfl, Bool.eq_iff_iff, beq_iff_eq, decide_eq_true_eq]; omega
  · rw [I.and_mask (x / 16777216) ⟨by omega, by omega⟩ 4 15 (by omega) rfl]; omega
  · rw [I.and_mask (i2 % 4294967296) ⟨by omega, by omega⟩ 24 16777215 (by omega) rfl]; omega
  · rw [I.and_mask x hx 24 16777215 (by omega) rfl]; omega
end Go.Proofs.Ytliofphhoaopkaa
