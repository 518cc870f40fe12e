/-
  Joined: Word1, Alu1, Mac7.
-/
import Derived.Test.YtpfgmfiegnkocaaRows
import Derived.WalkKit
import Derived.WalkSpells
import Derived.WalkLawsBesides
import Derived.Lib.Hide
import Derived.Deep.Cut
import Derived.Deep.RegionHeld3
import Derived.BigQuiet
import Derived.Test.YtpfgmfiegnkocaaWord0
import Derived.Test.YtpfgmfiegnkocaaRow0
import Derived.Test.YtpfgmfiegnkocaaM13
import Derived.Test.YtpfgmfiegnkocaaMac0
/-
  The contracts of package word: what each call answers; none touches the world.
-/
namespace Go.Proofs.Ytpfgmfiegnkocaa
open Go.RowKit
set_option linter.unusedVariables false
set_option linter.unusedSimpArgs false
set_option maxRecDepth 100000
set_option maxRecDepth 100000

theorem ret1 {k : IntKind} {a b : Int} {w : World} (h : a = b) : Ending.returned (.int k a) = .returned (.int k b) ∧ w = w := ⟨by rw [h], rfl⟩
theorem ret1b {a b : Bool} {w : World} (h : a = b) : Ending.returned (.bool a) = .returned (.bool b) ∧ w = w := ⟨by rw [h], rfl⟩
theorem ret3 {k : IntKind} {a b : Int} {c d e f : Bool} {w : World} (h : a = b) (h1 : c = d) (h2 : e = f) :
    Ending.returned (.tuple #[.int k a, .bool c, .bool e]) = .returned (.tuple #[.int k b, .bool d, .bool f]) ∧ w = w := ⟨by rw [h, h1, h2], rfl⟩
theorem ret3i {k l : IntKind} {a b c d : Int} {e f : Bool} {w : World} (h : a = b) (h1 : c = d) (h2 : e = f) :
    Ending.returned (.tuple #[.int k a, .int l c, .bool e]) = .returned (.tuple #[.int k b, .int l d, .bool f]) ∧ w = w := ⟨by rw [h, h1, h2], rfl⟩
theorem ret3iw {k l : IntKind} {a b c d : Int} {e f : Bool} {w : World} (h : a = b) (h1 : c = d) (h2 : e = f) :
    Ending.returned (.tuple #[.int k a, .int l c, .bool e]) = .returned (.tuple #[.int k b, .int l d, .bool f]) ∧ w = w := ⟨by rw [h, h1, h2], rfl⟩
theorem ret2i {k l : IntKind} {a b c d : Int} {w : World} (h : a = b) (h1 : c = d) :
    Ending.returned (.tuple #[.int k a, .int l c]) = .returned (.tuple #[.int k b, .int l d]) ∧ w = w := ⟨by rw [h, h1], rfl⟩

end Go.Proofs.Ytpfgmfiegnkocaa
/-
  The contracts of the small functions of package alu.
-/
namespace Go.Proofs.Ytpfgmfiegnkocaa
open Go.RowKit
set_option linter.unusedVariables false
set_option linter.unusedSimpArgs false
set_option maxRecDepth 100000
theorem A.show_eq (x : Int) (h0 : 0 ≤ x) (h1 : x < 4294967296) : (x / 2147483648 == 1) = decide (2147483648 ≤ x) := by
  rw [Bool.eq_iff_iff]; simp; omega
theorem A.info25 (s : A.Regs) : (Try.prog.info? 42).map (·.size) = some (A.cells s).size := by rw [A.size_cells]; kernel_rfl
end Go.Proofs.Ytpfgmfiegnkocaa
/-
  The contracts of package machine that a seat which never steps wants: Status, PC, Regs.
-/
namespace Go.Proofs.Ytpfgmfiegnkocaa
open Go.RowKit
set_option linter.unusedVariables false
set_option linter.unusedSimpArgs false
set_option maxRecDepth 100000
theorem MacAt.kept {F : Nat → Prop} {B : Nat} {x : X.St} {ai : Option Addr} {ni ci : Nat} {ao : Option Addr} {no co : Nat} {w w' : World} (h : MacAt F B x ai ni ci ao no co w) (hT : Kept w w') : MacAt F B x ai ni ci ao no co w' := h.turn (hT.turn fun _ => False) fun _ _ h => h
theorem MacAt.regs {F : Nat → Prop} {B : Nat} {x : X.St} {ai : Option Addr} {ni ci : Nat} {ao : Option Addr} {no co : Nat} {w : World} (h : MacAt F B x ai ni ci ao no co w) : w.rangeAt B 4099 (A.cells x.s).toList :=
  h.mem.at 2 _ fun k v hk => X.tl_at _ _ _ _ _ k v hk
theorem MacAt.row {F : Nat → Prop} {B : Nat} {x : X.St} {ai : Option Addr} {ni ci : Nat} {ao : Option Addr} {no co : Nat} {w : World} (h : MacAt F B x ai ni ci ao no co w) {k : Nat} (hk : ∀ j, F j → j ≠ k) (cs : Array Value) : MacAt F B x ai ni ci ao no co (w.setRow k cs) :=
  h.turn (G := fun j => j = k) ⟨rfl, rfl, rfl, by simp [World.setRow], fun i _ hi => setRow_other w k i cs hi⟩ fun j hj e => hk j hj e
theorem Mac.row {F : Nat → Prop} {B : Nat} {x : X.St} {w : World} (h : Mac F B x w) {k : Nat} (hk : ∀ j, F j → j ≠ k) (cs : Array Value) : Mac F B x (w.setRow k cs) := by
  obtain ⟨ai, ni, ci, ao, no, co, h⟩ := h
  exact ⟨ai, ni, ci, ao, no, co, h.row hk cs⟩
theorem Mac.pc {F : Nat → Prop} {B : Nat} {x : X.St} {w : World} (h : Mac F B x w) : w.cell? ⟨B, 4120, none⟩ = some (.int .u32 x.pc) := by obtain ⟨_, _, _, _, _, _, h⟩ := h; exact h.mem.tail 23 _ rfl
theorem Mac.st {F : Nat → Prop} {B : Nat} {x : X.St} {w : World} (h : Mac F B x w) : w.cell? ⟨B, 4121, none⟩ = some (.int .i64 x.st) := by obtain ⟨_, _, _, _, _, _, h⟩ := h; exact h.mem.tail 24 _ rfl
theorem Mac.regs {F : Nat → Prop} {B : Nat} {x : X.St} {w : World} (h : Mac F B x w) : w.rangeAt B 4099 (A.cells x.s).toList := by obtain ⟨_, _, _, _, _, _, h⟩ := h; exact h.regs
theorem Mac.free {F : Nat → Prop} {B : Nat} {x : X.St} {w : World} (h : Mac F B x w) (j : Nat) : w.frozen? ⟨B, j, none⟩ = false := by obtain ⟨_, _, _, _, _, _, h⟩ := h; exact h.mem.free j
theorem Mac.bounds {F : Nat → Prop} {B : Nat} {x : X.St} {w : World} (h : Mac F B x w) : A.Ok x.s ∧ 0 ≤ x.pc ∧ x.pc < 4294967296 := by obtain ⟨_, _, _, _, _, _, h⟩ := h; exact ⟨h.ok, h.pc0, h.pc1⟩
theorem Mac.rngs {F : Nat → Prop} {B : Nat} {x : X.St} {w : World} (h : Mac F B x w) : (∀ y ∈ x.ws, 0 ≤ y ∧ y < 4294967296) ∧ (∀ y ∈ x.ins, 0 ≤ y ∧ y < 4294967296) ∧ (∀ y ∈ x.outs, 0 ≤ y ∧ y < 4294967296) ∧ x.ws.length ≤ 4096 := by
  obtain ⟨_, _, _, _, _, _, h⟩ := h; exact ⟨h.mem.rng, h.ins.rng, h.rng, h.mem.len⟩
theorem Mac.there {F : Nat → Prop} {B : Nat} {x : X.St} {w : World} (h : Mac F B x w) : w.there B 4099 21 := by
  obtain ⟨ai, ni, ci, ao, no, co, h⟩ := h
  exact h.mem.there 4099 21 (by rw [X.tl_len]; omega)
theorem Mac.setSt {F : Nat → Prop} {B : Nat} {x : X.St} {w : World} (h : Mac F B x w) (t : Int) : Mac F B ⟨x.ws, x.s, x.pc, t, x.ins, x.outs⟩ (w.setCell ⟨B, 4121, none⟩ (.int .i64 t)) ∧ But B w (w.setCell ⟨B, 4121, none⟩ (.int .i64 t)) := by
  obtain ⟨ai, ni, ci, ao, no, co, h⟩ := h
  have hB : But B w (w.setCell ⟨B, 4121, none⟩ (.int .i64 t)) := (But.refl B w).setCell _ _
  have h2 := h.mem.set1 24 (.int .i64 t)
  rw [X.tl_st] at h2
  exact ⟨⟨ai, ni, ci, ao, no, co, h.own hB _ _ _ _ h2 h.ok h.pc0 h.pc1⟩, hB⟩
theorem status_any {F : Nat → Prop} {B : Nat} {x : X.St} {w : World} (h : Mac F B x w) :
    Calls Try.prog 20 #[.pointer (some ⟨B, 0, none⟩)] w fun e w' => e = .returned (.int .i64 x.st) ∧ w = w' := by
  have cs := h.st
  go_enter Try.func20, Try.ntmps20
  go_wp2
  go_ret
  exact ⟨rfl, rfl⟩
theorem pc_any {F : Nat → Prop} {B : Nat} {x : X.St} {w : World} (h : Mac F B x w) :
    Calls Try.prog 19 #[.pointer (some ⟨B, 0, none⟩)] w fun e w' => e = .returned (.int .u32 x.pc) ∧ w = w' := by
  have cs := h.pc
  go_enter Try.func19, Try.ntmps19
  go_wp2
  go_ret
  exact ⟨rfl, rfl⟩
theorem regs_any {F : Nat → Prop} {B : Nat} {x : X.St} {w : World} (h : Mac F B x w) :
    Calls Try.prog 18 #[.pointer (some ⟨B, 0, none⟩)] w fun e w' => e = .returned (.agg (A.cells x.s)) ∧ Kept w w' := by
  have hr := fun c t => (h.kept ((Kept.refl w).alloc c t)).regs
  go_enter Try.func18, Try.ntmps18
  go_wp2_with (first
    | (with_reducible refine wpList_load_mid (op := ⟨some 6, _, _, _, _, _⟩) rfl 42 _ rfl _ _ rfl (A.cells x.s).toList _ (hr _ _) Try.underlying42 rfl (by rw [Array.length_toList]; exact A.info25 _) ?_)
    | (with_reducible refine store_last rfl 42 _ _ rfl _ _ rfl rfl rfl (A.info25 _) (by kernel_rfl) (A.one_cells _) ?_))
  refine bodyPost_ret (results_has rfl w.heap.size rfl (Has.new (A.cells x.s) _ _) Try.underlying42 rfl (A.info25 _)) rfl ⟨rfl, (Kept.refl w).alloc _ _⟩
end Go.Proofs.Ytpfgmfiegnkocaa
