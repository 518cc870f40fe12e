/-
  The contracts of package memory: New, Word, Byte and what they call.
-/
import Derived.Test.YtkefggnocmmeoaaRows
import Derived.Test.YtkefggnocmmeoaaMem0
import Derived.WalkKit
import Derived.WalkSpells
import Derived.WalkLawsBesides
import Derived.Lib.Hide
import Derived.Deep.Cut
import Derived.Deep.RegionHeld3
import Derived.BigQuiet
import Derived.StillTailTactics
namespace Go.Proofs.Ytkefggnocmmeoaa
open Go.RowKit
set_option linter.unusedVariables false
set_option linter.unusedSimpArgs false
/-- a new memory's cells -/
def M.zero : Array Value := (List.replicate 4096 (Value.int .u32 0) ++ [Value.int .i64 0]).toArray
theorem M.shape : shapeOf Try.prog 52 = some (M.zero, [(0, 4096), (4096, 1)]) := by kernel_rfl
theorem row_size (k : Nat) (a b : Value) : (List.replicate k a ++ [b]).toArray.size = k + 1 := by simp
theorem row_at (k j : Nat) (a b : Value) (hj : j < k) : (List.replicate k a ++ [b]).toArray[j]? = some a := by
  rw [List.getElem?_toArray, List.getElem?_append_left (by simpa using hj), List.getElem?_replicate, if_pos hj]
theorem fill_one {place : Nat → Option (Nat × Nat)} {z : Array Value} {i off : Nat} {v : Value} (hp : place i = some (off, 1)) (hv : v.cells = #[v]) (hz : off + 1 ≤ z.size) : Instr.fill place z [(i, v)] = some (z.setIfInBounds off v) := by
  unfold Instr.fill
  simp [hp, hv, Instr.fill]
  omega
theorem M.zero_size : M.zero.size = 4097 := row_size 4096 _ _
theorem M.zero_at (j : Nat) (hj : j < 4096) : M.zero[j]? = some (Value.int .u32 0) := row_at 4096 j _ _ hj
theorem M.built (n : Int) : Try.prog.built 52 [(1, .int .i64 n)] = some (M.zero.setIfInBounds 4096 (.int .i64 n)) := by
  rw [built_of M.shape]
  exact fill_one rfl rfl (by rw [M.zero_size]; omega)
theorem Mem.new (n : Nat) (hn : n ≤ 4096) (w : World) : Mem w.heap.size (List.replicate n 0) (w.alloc (.cells (M.zero.setIfInBounds 4096 (.int .i64 n)) 52)) := by
  refine ⟨by simpa using hn, fun x hx => ?_, _, Has.new _ _ _, by simp [M.zero_size], ?_, fun j x hj => ?_⟩
  · rw [List.eq_of_mem_replicate hx]; omega
  · rw [Array.getElem?_setIfInBounds_self_of_lt (by rw [M.zero_size]; omega), List.length_replicate]
  · rw [List.getElem?_replicate] at hj
    split at hj
    · cases hj
      rw [Array.getElem?_setIfInBounds_ne (by omega)]
      exact M.zero_at j (by omega)
    · cases hj
theorem M.new_no (n : Int) (hn : n < 0 ∨ 4096 < n) (w : World) :
    Calls Try.prog 9 #[.int .i64 n] w fun e w' => e = .returned (.tuple #[.pointer none, .int .i64 2]) ∧ w = w' := by
  rcases Int.lt_or_le n 0 with h | h
  · go_enter Try.func9, Try.ntmps9
    go_wp2
    go_ret2
    exact ⟨rfl, rfl⟩
  · have h1 : 4096 < n := by omega
    go_enter Try.func9, Try.ntmps9
    go_wp2
    go_ret2
    exact ⟨rfl, rfl⟩
theorem M.new_yes (n : Nat) (hn : n ≤ 4096) (w : World) :
    Calls Try.prog 9 #[.int .i64 n] w fun e w' => e = .returned (.tuple #[.pointer (some ⟨w.heap.size, 0, none⟩), .int .i64 0]) ∧ Mem w.heap.size (List.replicate n 0) w' ∧ Kept w w' ∧ w'.heap.size = w.heap.size + 1 := by
  have h0 : (0 : Int) ≤ n := by omega
  have h1 : (n : Int) ≤ 4096 := by omega
  go_enter Try.func9, Try.ntmps9
  go_wp2_with (first
    | ((with_reducible refine build_has (o := ⟨some 11, _, _, _, _, _⟩) rfl 52 _ rfl (M.zero.setIfInBounds 4096 (.int .i64 n)) ?hf4 ?_); (case hf4 => (go_simp; exact M.built _))))
  go_ret2
  exact ⟨rfl, Mem.new n hn w, (Kept.refl w).alloc _ _, by simp⟩
theorem M.low_any (x : Int) (h0 : 0 ≤ x) (h1 : x < 4294967296) (w : World) :
    Calls Try.prog 29 #[.int .u32 x] w fun e w' => e = .returned (.int .u32 (8 * (x % 4))) ∧ w = w' := by
  go_enter Try.func29, Try.ntmps29
  go_wp2
  go_ret
  exact ⟨rfl, rfl⟩
/-- the trap of a byte, and of a word -/
def M.bt (ws : List Int) (a : Int) : Int := if (ws.length : Int) ≤ a / 4 then 3 else 0
def M.wt (ws : List Int) (a : Int) : Int := if a % 4 = 0 then M.bt ws a else 4
theorem M.bt_any {B : Nat} {ws : List Int} {w : World} (h : Mem B ws w) (a : Int) (h0 : 0 ≤ a) (h1 : a < 4294967296) :
    Calls Try.prog 28 #[.pointer (some ⟨B, 0, none⟩), .int .u32 a] w fun e w' => e = .returned (.int .i64 (M.bt ws a)) ∧ w = w' := by
  have hc := h.count
  have hl := h.len
  have hl0 : (ws.length : Int) ≤ 4096 := by omega
  clear h
  unfold M.bt
  by_cases c : (ws.length : Int) ≤ a / 4
  · rw [if_pos c]
    go_enter Try.func28, Try.ntmps28
    go_wp2
    go_ret
    exact ⟨rfl, rfl⟩
  · rw [if_neg c]
    go_enter Try.func28, Try.ntmps28
    go_wp2
    go_ret
    exact ⟨rfl, rfl⟩
theorem M.wt_any {B : Nat} {ws : List Int} {w : World} (h : Mem B ws w) (a : Int) (h0 : 0 ≤ a) (h1 : a < 4294967296) :
    Calls Try.prog 25 #[.pointer (some ⟨B, 0, none⟩), .int .u32 a] w fun e w' => e = .returned (.int .i64 (M.wt ws a)) ∧ w = w' := by
  have C := M.bt_any h a h0 h1
  clear h
  unfold M.wt
  by_cases c : a % 4 = 0
  · rw [if_pos c]
    go_enter Try.func25, Try.ntmps25
    go_wp2_with (go_at_call 28; refine C.mono ?_; rintro e w' ⟨rfl, rfl⟩)
    go_ret
    exact ⟨rfl, rfl⟩
  · rw [if_neg c]
    go_enter Try.func25, Try.ntmps25
    go_wp2
    go_ret
    exact ⟨rfl, rfl⟩
/-- the word at an address, and the byte -/
def M.word (ws : List Int) (a : Int) : Int := if M.wt ws a = 0 then ws.getD (a / 4).toNat 0 else 0
def M.byte (ws : List Int) (a : Int) : Int := if M.bt ws a = 0 then ws.getD (a / 4).toNat 0 / 2 ^ (8 * (a % 4)).toNat % 256 else 0
theorem M.bt_zero {ws : List Int} {a : Int} (h0 : 0 ≤ a) (h : M.bt ws a = 0) : (a / 4).toNat < ws.length := by
  unfold M.bt at h
  split at h
  · omega
  · omega
theorem M.wt_zero {ws : List Int} {a : Int} (h : M.wt ws a = 0) : a % 4 = 0 ∧ M.bt ws a = 0 := by
  unfold M.wt at h
  split at h
  · exact ⟨by assumption, h⟩
  · omega
theorem M.word_any {B : Nat} {ws : List Int} {w : World} (h : Mem B ws w) (a : Int) (h0 : 0 ≤ a) (h1 : a < 4294967296) :
    Calls Try.prog 11 #[.pointer (some ⟨B, 0, none⟩), .int .u32 a] w fun e w' => e = .returned (.tuple #[.int .u32 (M.word ws a), .int .i64 (M.wt ws a)]) ∧ w = w' := by
  have C := M.wt_any h a h0 h1
  have hl := h.len
  unfold M.word
  by_cases c : M.wt ws a = 0
  · rw [if_pos c]
    obtain ⟨c1, c2⟩ := M.wt_zero c
    have c3 := M.bt_zero h0 c2
    have hw := h.word _ c3
    rw [show ws.getD (a / 4).toNat 0 = ws[(a / 4).toNat] by simp [c3]]
    generalize ws[(a / 4).toNat] = x at *
    have c4 : a / 4 < 4096 := by omega
    rw [c] at C ⊢
    clear h hl c c1 c2 c3
    go_enter Try.func11, Try.ntmps11
    go_wp2_with (go_at_call 25; refine C.mono ?_; rintro e w' ⟨rfl, rfl⟩)
    go_ret2
    exact ⟨rfl, rfl⟩
  · rw [if_neg c]
    generalize M.wt ws a = t at *
    clear h
    go_enter Try.func11, Try.ntmps11
    go_wp2_with (go_at_call 25; refine C.mono ?_; rintro e w' ⟨rfl, rfl⟩)
    go_ret2
    exact ⟨rfl, rfl⟩
theorem M.byte_any {B : Nat} {ws : List Int} {w : World} (h : Mem B ws w) (a : Int) (h0 : 0 ≤ a) (h1 : a < 4294967296) :
    Calls Try.prog 13 #[.pointer (some ⟨B, 0, none⟩), .int .u32 a] w fun e w' => e = .returned (.tuple #[.int .u8 (M.byte ws a), .int .i64 (M.bt ws a)]) ∧ Kept w w' := by
  have C := M.bt_any h a h0 h1
  have hl := h.len
  unfold M.byte
  by_cases c : M.bt ws a = 0
  · rw [if_pos c]
    have c3 := M.bt_zero h0 c
    have hw := h.word _ c3
    have hr := h.rng _ (List.getElem_mem c3)
    rw [show ws.getD (a / 4).toNat 0 = ws[(a / 4).toNat] by simp [c3]]
    generalize ws[(a / 4).toNat] = x at *
    have c4 : a / 4 < 4096 := by omega
    rw [c] at C ⊢
    have L := fun w => M.low_any a h0 h1 w
    generalize hk : 8 * (a % 4) = k at *
    have k0 : 0 ≤ k := by omega
    have k1 : k < 32 := by omega
    clear h hl c c3 hk
    go_enter Try.func13, Try.ntmps13
    go_wp2_with (go_at_call 28; refine C.mono ?_; rintro e w' ⟨rfl, rfl⟩)
    have hq : IntKind.u32.wrap (a.tdiv 4) = a / 4 := IntWalk.u32_quo a 4 ⟨h0, by omega, by omega⟩
    have hq0 : 0 ≤ a / 4 := by omega
    go_quiet ((go_at_call 29; exact Calls.quiet_of_same ((L _).mono fun _ _ h => ⟨h.1, h.2.symm⟩)))
    go_wp2
    go_ret2
    exact ⟨rfl, (Kept.refl w).drewN nq⟩
  · rw [if_neg c]
    generalize M.bt ws a = t at *
    clear h
    go_enter Try.func13, Try.ntmps13
    go_wp2_with (go_at_call 28; refine C.mono ?_; rintro e w' ⟨rfl, rfl⟩)
    go_ret2
    exact ⟨rfl, Kept.refl _⟩
end Go.Proofs.Ytkefggnocmmeoaa
