/-
  The law MachineRuns.
-/
import Derived.Test.YtlmddkciamdldaaGreatQf
namespace Go.Proofs.YtlmddkciamdldaaGreat
open Go.RowKit
set_option linter.unusedVariables false
set_option linter.unusedSimpArgs false
set_option maxRecDepth 100000
def X.Trio (w0 : World) (B1 B2 B3 : Nat) (x1 x2 x3 : X.St) (w : World) : Prop := ∃ F1 F2 F3, X.Four w0 F1 F2 F3 T0 w ∧ Mac F1 B1 x1 w ∧ Mac F2 B2 x2 w ∧ Mac F3 B3 x3 w
theorem X.Trio.rot {w0 : World} {B1 B2 B3 : Nat} {x1 x2 x3 : X.St} {w : World} (h : X.Trio w0 B1 B2 B3 x1 x2 x3 w) : X.Trio w0 B2 B3 B1 x2 x3 x1 w := by
  obtain ⟨F1, F2, F3, h, m1, m2, m3⟩ := h
  exact ⟨F2, F3, F1, ⟨h.d23, fun k a b => h.d12 k b a, h.d24, fun k a b => h.d13 k b a, h.d34, h.d14, h.g2, h.g3, h.g1, h.g4, h.s2, h.s3, h.s1, h.s4, h.b⟩, m2, m3, m1⟩
theorem X.Trio.b {w0 : World} {B1 B2 B3 : Nat} {x1 x2 x3 : X.St} {w : World} (h : X.Trio w0 B1 B2 B3 x1 x2 x3 w) : Below w0.heap.size w0 w := by obtain ⟨F1, F2, F3, h, _⟩ := h; exact h.b
theorem X.Trio.mac {w0 : World} {B1 B2 B3 : Nat} {x1 x2 x3 : X.St} {w : World} (h : X.Trio w0 B1 B2 B3 x1 x2 x3 w) : ∃ F, Mac F B1 x1 w := by obtain ⟨F1, F2, F3, h, m1, _⟩ := h; exact ⟨F1, m1⟩
theorem X.Trio.turn0 {w0 : World} {B1 B2 B3 : Nat} {x1 x2 x3 : X.St} {w w' : World} (h : X.Trio w0 B1 B2 B3 x1 x2 x3 w) (hT : Turn T0 w w') : X.Trio w0 B1 B2 B3 x1 x2 x3 w' := by
  obtain ⟨F1, F2, F3, h, m1, m2, m3⟩ := h
  exact ⟨F1, F2, F3, h.turn0 hT, m1.turn hT fun _ _ h => h, m2.turn hT fun _ _ h => h, m3.turn hT fun _ _ h => h⟩
theorem X.Trio.kept {w0 : World} {B1 B2 B3 : Nat} {x1 x2 x3 : X.St} {w w' : World} (h : X.Trio w0 B1 B2 B3 x1 x2 x3 w) (hK : Kept w w') : X.Trio w0 B1 B2 B3 x1 x2 x3 w' := h.turn0 (hK.turn T0)
theorem X.Trio.run {w0 : World} {B1 B2 B3 : Nat} {x1 x2 x3 : X.St} {w : World} (h : X.Trio w0 B1 B2 B3 x1 x2 x3 w) (n : Int) (N : Nat) (hN : n.toNat = N) (n0 : -9223372036854775808 ≤ n) (n1 : n ≤ 1000000) (hn : x1.outs.length + N < 1000000) :
    Calls Tryz.prog 13 #[.pointer (some ⟨B1, 0, none⟩), .int .i64 n] w fun e w' => e = .returned (.int .i64 (X.go N x1).st) ∧ X.Trio w0 B1 B2 B3 (X.go N x1) x2 x3 w' := by
  obtain ⟨F1, F2, F3, h, m1, m2, m3⟩ := h
  refine (run_any m1 n N hN n0 n1 hn).mono ?_
  rintro e w' ⟨he, F', p1, p2, p3⟩
  exact ⟨he, F', F2, F3, h.step p2 p1.sub p3, p1, m2.turn p2 fun k a b => h.d12 k b a, m3.turn p2 fun k a b => h.d13 k b a⟩
theorem X.Trio.step {w0 : World} {B1 B2 B3 : Nat} {x1 x2 x3 : X.St} {w : World} (h : X.Trio w0 B1 B2 B3 x1 x2 x3 w) (hn : x1.outs.length < 1000000) :
    Calls Tryz.prog 10 #[.pointer (some ⟨B1, 0, none⟩)] w fun e w' => e = .returned (.int .i64 (X.step x1).st) ∧ X.Trio w0 B1 B2 B3 (X.step x1) x2 x3 w' := by
  obtain ⟨F1, F2, F3, h, m1, m2, m3⟩ := h
  refine (step_any m1 hn).mono ?_
  rintro e w' ⟨he, F', p1, p2, p3⟩
  exact ⟨he, F', F2, F3, h.step p2 p1.sub p3, p1, m2.turn p2 fun k a b => h.d12 k b a, m3.turn p2 fun k a b => h.d13 k b a⟩
theorem X.Trio.pc {w0 : World} {B1 B2 B3 : Nat} {x1 x2 x3 : X.St} {w : World} (h : X.Trio w0 B1 B2 B3 x1 x2 x3 w) :
    Calls Tryz.prog 15 #[.pointer (some ⟨B1, 0, none⟩)] w fun e w' => e = .returned (.int .u32 x1.pc) ∧ w = w' := by obtain ⟨F, m⟩ := h.mac; exact pc_any m
theorem X.Trio.status {w0 : World} {B1 B2 B3 : Nat} {x1 x2 x3 : X.St} {w : World} (h : X.Trio w0 B1 B2 B3 x1 x2 x3 w) :
    Calls Tryz.prog 14 #[.pointer (some ⟨B1, 0, none⟩)] w fun e w' => e = .returned (.int .i64 x1.st) ∧ w = w' := by obtain ⟨F, m⟩ := h.mac; exact status_any m
theorem X.Trio.regs {w0 : World} {B1 B2 B3 : Nat} {x1 x2 x3 : X.St} {w : World} (h : X.Trio w0 B1 B2 B3 x1 x2 x3 w) :
    Calls Tryz.prog 16 #[.pointer (some ⟨B1, 0, none⟩)] w fun e w' => e = .returned (.agg (A.cells x1.s)) ∧ X.Trio w0 B1 B2 B3 x1 x2 x3 w' := by
  obtain ⟨F, m⟩ := h.mac; refine (regs_any m).mono ?_; rintro e w' ⟨he, hK⟩; exact ⟨he, h.kept hK⟩
theorem X.Trio.outs {w0 : World} {B1 B2 B3 : Nat} {x1 x2 x3 : X.St} {w : World} (h : X.Trio w0 B1 B2 B3 x1 x2 x3 w) (hn : x1.outs.length ≤ 1000000000) :
    Calls Tryz.prog 18 #[.pointer (some ⟨B1, 0, none⟩)] w fun e w' => ∃ A' c', e = .returned (.slice A' x1.outs.length c') ∧ Ws w' A' x1.outs.length c' x1.outs ∧ X.Trio w0 B1 B2 B3 x1 x2 x3 w' ∧ Turn T0 w w' := by
  obtain ⟨F, m⟩ := h.mac; refine (outs_any m hn).mono ?_; rintro e w' ⟨A', c', he, h1, h2, h3⟩; exact ⟨A', c', he, h1, h.turn0 h2, h2⟩
theorem X.Trio.words {w0 : World} {B1 B2 B3 : Nat} {x1 x2 x3 : X.St} {w : World} (h : X.Trio w0 B1 B2 B3 x1 x2 x3 w) :
    Calls Tryz.prog 19 #[.pointer (some ⟨B1, 0, none⟩)] w fun e w' => ∃ g, e = .returned (.slice (some ⟨g, 0, none⟩) x1.ws.length x1.ws.length) ∧ Ws w' (some ⟨g, 0, none⟩) x1.ws.length x1.ws.length x1.ws ∧ X.Trio w0 B1 B2 B3 x1 x2 x3 w' ∧ Turn T0 w w' := by
  obtain ⟨F, m⟩ := h.mac; refine (words_any m).mono ?_; rintro e w' ⟨g, he, _, h1, h2⟩; exact ⟨g, he, h1, h.kept h2, h2.turn T0⟩
set_option maxHeartbeats 8000000 in
theorem walk_Runs {w : World} {ap : Option Addr} {n c : Nat} {xs : List Int} (hl : Ws w ap n c xs) (s : A.Regs) (pc : Int) {ai : Option Addr} {ni ci : Nat} {is : List Int} (hi : Ws w ai ni ci is) (hs : A.Ok s) (p0 : 0 ≤ pc) (p1 : pc < 4294967296) (n0 n1 : Int) (r0 : -128 ≤ n0 ∧ n0 ≤ 127) (r1 : -128 ≤ n1 ∧ n1 ≤ 127) :
    Calls Tryz.prog 4 #[.slice ap n c, .agg (X.setC s pc (.slice ai ni ci)), .agg #[.int .i8 n0, .int .i8 n1]] w fun e w' => e = .returned (.bool true) ∧ Below w.heap.size w w' := by
  obtain ⟨a, ha⟩ : ∃ a : Nat, bits .and .i64 n0 63 = a ∧ a < 64 := X.and63 n0
  obtain ⟨b, hb⟩ : ∃ b : Nat, bits .and .i64 n1 63 = b ∧ b < 64 := X.and63 n1
  obtain ⟨ha, a64⟩ := ha
  obtain ⟨hb, b64⟩ := hb
  obtain ⟨p, hp⟩ : ∃ p, pc % 80 = p := ⟨_, rfl⟩
  have q0 : 0 ≤ p := by omega
  have q1 : p < 4294967296 := by omega
  have hL := Lib.hid hl
  have hI := Lib.hid hi
  clear hl hi
  go_enter Tryz.func4, Tryz.ntmps4
  go_wp2_with (fail)
  refine (shown_any _).mono ?_; rintro e w1 ⟨rfl, hT1⟩
  have hA := ((Kept.refl w).alloc (X.setC s pc (.slice ai ni ci)) 28).alloc #[.int .i8 n0, .int .i8 n1] 39
  have hTw1 : Turn T0 w w1 := (hA.turn T0).trans hT1
  have hS1 : Has w.heap.size (X.setC s pc (.slice ai ni ci)) 28 w1 := ((Has.new _ _ w).alloc _).turn0 hT1
  have hN1 : Has (w.heap.size + 1) #[.int .i8 n0, .int .i8 n1] 39 w1 := (Has.new1 _ _ w _).turn0 hT1
  have hL1 := hL.out.turn0 hTw1
  have hI1 := hI.out.turn0 hTw1
  have hLb : ∀ ad, ap = some ad → 0 < n → ad.block < w.heap.size := fun ad e hn => by subst e; exact hL.out.lt hn
  have hIb : ∀ ad, ai = some ad → 0 < ni → ad.block < w.heap.size := fun ad e hn => by subst e; exact hI.out.lt hn
  have cp : w1.cell? ⟨w.heap.size, 21, none⟩ = some (.int .u32 pc) := hS1.cell 21 _ rfl
  have fp := hS1.free 21
  have hB2 : But w.heap.size w1 (w1.setCell ⟨w.heap.size, 21, none⟩ (.int .u32 p)) := (But.refl _ w1).setCell _ _
  have hS2 : Has w.heap.size (X.setC s p (.slice ai ni ci)) 28 (w1.setCell ⟨w.heap.size, 21, none⟩ (.int .u32 p)) := hS1.set 21 _
  have hN2 := Lib.hid (hB2.has (k := w.heap.size + 1) (by omega) hN1)
  have hL2 := hL1.but hB2 fun ad e hn => by have := hLb ad e hn; omega
  have hI2 := hI1.but hB2 fun ad e hn => by have := hIb ad e hn; omega
  have hTw2 : Turn T0 w (w1.setCell ⟨w.heap.size, 21, none⟩ (.int .u32 p)) := hTw1.then (hB2.turn (F := fun k => w.heap.size ≤ k) (Nat.le_refl _)) fun k hk => Or.inr hk
  have hS0 : Has w.heap.size (X.setC s p (.slice ai ni ci)) 28 (w1.setCell ⟨w.heap.size, 21, none⟩ (.int .u32 p)).drew ∧ Ws (w1.setCell ⟨w.heap.size, 21, none⟩ (.int .u32 p)).drew ap n c xs ∧ Ws (w1.setCell ⟨w.heap.size, 21, none⟩ (.int .u32 p)).drew ai ni ci is := ⟨hS2, hL2.drew, hI2.drew⟩
  have hTd : Turn T0 w (w1.setCell ⟨w.heap.size, 21, none⟩ (.int .u32 p)).drew := hTw2.drew
  replace hS0 := Lib.hid hS0
  replace hTd := Lib.hid hTd
  clear hA hT1 hTw1 hS1 hN1 hL1 hI1 hB2 hS2 hL2 hI2 hTw2 hL hI hLb hIb
  go_upto_region 3 with (fail)
  clear cp fp
  generalize hg : w.heap.size = g at *
  generalize w1.setCell _ _ = w2 at *
  have hFr := X.Four.start (w0 := w) (w := w2.drew) (by rw [hg]; have := hTd.out.below w.heap.size (Nat.le_refl _) fun _ h => h.elim; rwa [hg] at this)
  replace hFr := Lib.hid hFr
  have hNd := Lib.hid (show Has (g + 1) #[.int .i8 n0, .int .i8 n1] 39 w2.drew from hN2.out)
  clear hN2 hTd
  refine wp_region_held_drew (S := fun wz => Has g (X.setC s p (.slice ai ni ci)) 28 wz ∧ Ws wz ap n c xs ∧ Ws wz ai ni ci is) (by kernel_rfl) ?_ (fun hHeld => ?_)
  · exact hS0.out
  refine wpAnyH_take (i := 0) (oi := { dst := some 25, op := Op.move (Operand.tmp 0), type := 22, pos := "law.go:92", after := #[], guard := none }) (v := ?_) rfl (by kernel_rfl) (by kernel_rfl) (by kernel_rfl) (fun _ _ _ h => h) (Or.inl ⟨rfl, ?_⟩) hHeld ?_
  rotate_left
  · (intro wz hSw; (try dsimp only at hSw); go_simp; try with_reducible rfl)
  try simp only [Act.put, List.setIfInBounds_toArray, List.set_cons_zero, List.set_cons_succ]
  refine wpAnyH_take (i := 2) (oi := { dst := some 27, op := Op.load 28 (Operand.tmp 4), type := 28, pos := "law.go:92", after := #[], guard := none }) (v := ?_) rfl (by kernel_rfl) (by kernel_rfl) (by kernel_rfl) (fun _ _ _ h => h) (Or.inl ⟨rfl, ?_⟩) hHeld ?_
  rotate_left
  · (intro wz hSw; refine exec_load_has 28 (Operand.tmp 4) ?_ _ ?_ hSw.1 Tryz.underlying28 rfl (by kernel_rfl) <;> rfl)
  try simp only [Act.put, List.setIfInBounds_toArray, List.set_cons_zero, List.set_cons_succ]
  refine wpAnyH_ready (rs := [1]) (by kernel_rfl) (by simp) ?_
  refine AllReadyH.cons (o := { dst := some 26, op := Op.call { callee := Callee.value (Operand.func 9), args := #[Operand.tmp 25], argTypes := #[22] }, type := 22, pos := "law.go:92", after := #[eD 0], guard := none }) rfl (fun K hK => ?_) (AllReadyH.nil)
  go_simp
  go_at_call 9
  refine (fitw_any hHeld.2.1).mono ?_
  rintro e wda ⟨gfa, cfa, rfl, p1a, p2a, p3a⟩
  have hN := (show (fun wz => Has g (X.setC s p (.slice ai ni ci)) 28 wz ∧ Ws wz ap n c xs ∧ Ws wz ai ni ci is) _ from ⟨hHeld.1.turn0 (below_turn0 p2a), hHeld.2.1.turn0 (below_turn0 p2a), hHeld.2.2.turn0 (below_turn0 p2a)⟩)
  clear hHeld
  refine hK.out _ _ hN (fun hHeld => ?_)
  clear hK K hN
  try simp only [Act.put, List.setIfInBounds_toArray, List.set_cons_zero, List.set_cons_succ]
  refine wpAnyH_ready (rs := [3]) (by kernel_rfl) (by simp) ?_
  refine AllReadyH.cons (o := { dst := some 28, op := Op.call { callee := Callee.value (Operand.func 7), args := #[Operand.tmp 26, Operand.tmp 27], argTypes := #[22, 28] }, type := 32, pos := "law.go:92", after := #[eD 1, eD 2, eC 1], guard := none }) rfl (fun K hK => ?_) (AllReadyH.nil)
  go_simp
  go_at_call 7
  refine (made_any p1a (Nat.min_le_right _ _) s p hHeld.2.2 hs q0 q1).mono ?_
  rintro e wea ⟨Ba, Ea, rfl, Fa, Ga, m1a, m2a⟩
  have mTa := (below_turn0 p2a).trans m2a
  have hN := (show (fun wz => Has g (X.setC s p (.slice ai ni ci)) 28 wz ∧ Ws wz ap n c xs ∧ Ws wz ai ni ci is) _ from ⟨hHeld.1.turn0 m2a, hHeld.2.1.turn0 m2a, hHeld.2.2.turn0 m2a⟩)
  clear hHeld
  refine hK.out _ _ hN (fun hHeld => ?_)
  clear hK K hN
  try simp only [Act.put, List.setIfInBounds_toArray, List.set_cons_zero, List.set_cons_succ]
  refine wpAnyH_take (i := 4) (oi := { dst := some 24, op := Op.move (Operand.tmp 28), type := 32, pos := "law.go:92", after := #[eD 3], guard := none }) (v := ?_) rfl (by kernel_rfl) (by kernel_rfl) (by kernel_rfl) (fun _ _ _ h => h) (Or.inl ⟨rfl, ?_⟩) hHeld ?_
  rotate_left
  · (intro wz hSw; (try dsimp only at hSw); go_simp; try with_reducible rfl)
  try simp only [Act.put, List.setIfInBounds_toArray, List.set_cons_zero, List.set_cons_succ]
  refine wpAnyH_take (i := 5) (oi := { dst := some 29, op := Op.extract (Operand.tmp 24) 0, type := 30, pos := "law.go:92", after := #[eD 4], guard := none }) (v := ?_) rfl (by kernel_rfl) (by kernel_rfl) (by kernel_rfl) (fun _ _ _ h => h) (Or.inl ⟨rfl, ?_⟩) hHeld ?_
  rotate_left
  · (intro wz hSw; (try dsimp only at hSw); go_simp; try with_reducible rfl)
  try simp only [Act.put, List.setIfInBounds_toArray, List.set_cons_zero, List.set_cons_succ]
  refine wpAnyH_take (i := 6) (oi := { dst := some 30, op := Op.extract (Operand.tmp 24) 1, type := 31, pos := "law.go:92", after := #[eD 4, eL 7], guard := none }) (v := ?_) rfl (by kernel_rfl) (by kernel_rfl) (by kernel_rfl) (fun _ _ _ h => h) (Or.inl ⟨rfl, ?_⟩) hHeld ?_
  rotate_left
  · (intro wz hSw; (try dsimp only at hSw); go_simp; try with_reducible rfl)
  try simp only [Act.put, List.setIfInBounds_toArray, List.set_cons_zero, List.set_cons_succ]
  refine wpAnyH_take (i := 7) (oi := { dst := some 8, op := Op.assign (Operand.tmp 29), type := 30, pos := "law.go:92", after := #[eD 5, eC 3, eP 0, eP 1, eP 2, eP 3, eP 4, eP 5, eT 6], guard := none }) (v := ?_) rfl (by kernel_rfl) (by kernel_rfl) (by kernel_rfl) (fun _ _ _ h => h) (Or.inl ⟨rfl, ?_⟩) hHeld ?_
  rotate_left
  · (intro wz hSw; (try dsimp only at hSw); go_simp; try with_reducible rfl)
  try simp only [Act.put, List.setIfInBounds_toArray, List.set_cons_zero, List.set_cons_succ]
  refine wpAnyH_take (i := 8) (oi := { dst := some 9, op := Op.assign (Operand.tmp 30), type := 31, pos := "law.go:92", after := #[eD 6, eC 7, eP 0, eP 1, eP 2, eP 3, eP 4, eP 5, eP 6, eP 7], guard := none }) (v := ?_) rfl (by kernel_rfl) (by kernel_rfl) (by kernel_rfl) (fun _ _ _ h => h) (Or.inl ⟨rfl, ?_⟩) hHeld ?_
  rotate_left
  · (intro wz hSw; (try dsimp only at hSw); go_simp; try with_reducible rfl)
  try simp only [Act.put, List.setIfInBounds_toArray, List.set_cons_zero, List.set_cons_succ]
  refine wpAnyH_done (by kernel_rfl) ?_ _
  have hFr := Lib.hid (X.Four.put hFr.out mTa m1a.p.sub (fun k hk => Nat.le_trans p2a.size (m1a.fF k hk)))
  have hMa := Lib.hid m1a.p
  have hNd := Lib.hid (hNd.out.turn0 mTa)
  have hS0 := hHeld
  clear hHeld m1a m2a mTa p1a p2a p3a
  replace hS0 := (show _ ∧ _ ∧ _ from ⟨hS0.1.drew, hS0.2.1.drew, hS0.2.2.drew⟩)
  replace hS0 := Lib.hid hS0
  replace hFr := Lib.hid (hFr.out.rot.turn0 (Turn.refl T0 _).drew)
  replace hNd := Lib.hid (show Has (g + 1) #[.int .i8 n0, .int .i8 n1] 39 wea.drew from hNd.out)
  replace hMa := Lib.hid (hMa.out.kept (Kept.refl _).drew)
  go_upto_region 4 with (fail)
  refine wp_region_held_drew (S := fun wz => Has g (X.setC s p (.slice ai ni ci)) 28 wz ∧ Ws wz ap n c xs ∧ Ws wz ai ni ci is) (by kernel_rfl) ?_ (fun hHeld => ?_)
  · exact hS0.out
  refine wpAnyH_take (i := 0) (oi := { dst := some 32, op := Op.move (Operand.tmp 0), type := 22, pos := "law.go:93", after := #[], guard := none }) (v := ?_) rfl (by kernel_rfl) (by kernel_rfl) (by kernel_rfl) (fun _ _ _ h => h) (Or.inl ⟨rfl, ?_⟩) hHeld ?_
  rotate_left
  · (intro wz hSw; (try dsimp only at hSw); go_simp; try with_reducible rfl)
  try simp only [Act.put, List.setIfInBounds_toArray, List.set_cons_zero, List.set_cons_succ]
  refine wpAnyH_take (i := 2) (oi := { dst := some 34, op := Op.load 28 (Operand.tmp 4), type := 28, pos := "law.go:93", after := #[], guard := none }) (v := ?_) rfl (by kernel_rfl) (by kernel_rfl) (by kernel_rfl) (fun _ _ _ h => h) (Or.inl ⟨rfl, ?_⟩) hHeld ?_
  rotate_left
  · (intro wz hSw; refine exec_load_has 28 (Operand.tmp 4) ?_ _ ?_ hSw.1 Tryz.underlying28 rfl (by kernel_rfl) <;> rfl)
  try simp only [Act.put, List.setIfInBounds_toArray, List.set_cons_zero, List.set_cons_succ]
  refine wpAnyH_ready (rs := [1]) (by kernel_rfl) (by simp) ?_
  refine AllReadyH.cons (o := { dst := some 33, op := Op.call { callee := Callee.value (Operand.func 9), args := #[Operand.tmp 32], argTypes := #[22] }, type := 22, pos := "law.go:93", after := #[eD 0], guard := none }) rfl (fun K hK => ?_) (AllReadyH.nil)
  go_simp
  go_at_call 9
  refine (fitw_any hHeld.2.1).mono ?_
  rintro e wdb ⟨gfb, cfb, rfl, p1b, p2b, p3b⟩
  have hN := (show (fun wz => Has g (X.setC s p (.slice ai ni ci)) 28 wz ∧ Ws wz ap n c xs ∧ Ws wz ai ni ci is) _ from ⟨hHeld.1.turn0 (below_turn0 p2b), hHeld.2.1.turn0 (below_turn0 p2b), hHeld.2.2.turn0 (below_turn0 p2b)⟩)
  clear hHeld
  refine hK.out _ _ hN (fun hHeld => ?_)
  clear hK K hN
  try simp only [Act.put, List.setIfInBounds_toArray, List.set_cons_zero, List.set_cons_succ]
  refine wpAnyH_ready (rs := [3]) (by kernel_rfl) (by simp) ?_
  refine AllReadyH.cons (o := { dst := some 35, op := Op.call { callee := Callee.value (Operand.func 7), args := #[Operand.tmp 33, Operand.tmp 34], argTypes := #[22, 28] }, type := 32, pos := "law.go:93", after := #[eD 1, eD 2, eC 1], guard := none }) rfl (fun K hK => ?_) (AllReadyH.nil)
  go_simp
  go_at_call 7
  refine (made_any p1b (Nat.min_le_right _ _) s p hHeld.2.2 hs q0 q1).mono ?_
  rintro e web ⟨Bb, Eb, rfl, Fb, Gb, m1b, m2b⟩
  have mTb := (below_turn0 p2b).trans m2b
  have hN := (show (fun wz => Has g (X.setC s p (.slice ai ni ci)) 28 wz ∧ Ws wz ap n c xs ∧ Ws wz ai ni ci is) _ from ⟨hHeld.1.turn0 m2b, hHeld.2.1.turn0 m2b, hHeld.2.2.turn0 m2b⟩)
  clear hHeld
  refine hK.out _ _ hN (fun hHeld => ?_)
  clear hK K hN
  try simp only [Act.put, List.setIfInBounds_toArray, List.set_cons_zero, List.set_cons_succ]
  refine wpAnyH_take (i := 4) (oi := { dst := some 31, op := Op.move (Operand.tmp 35), type := 32, pos := "law.go:93", after := #[eD 3], guard := none }) (v := ?_) rfl (by kernel_rfl) (by kernel_rfl) (by kernel_rfl) (fun _ _ _ h => h) (Or.inl ⟨rfl, ?_⟩) hHeld ?_
  rotate_left
  · (intro wz hSw; (try dsimp only at hSw); go_simp; try with_reducible rfl)
  try simp only [Act.put, List.setIfInBounds_toArray, List.set_cons_zero, List.set_cons_succ]
  refine wpAnyH_take (i := 5) (oi := { dst := some 36, op := Op.extract (Operand.tmp 31) 0, type := 30, pos := "law.go:93", after := #[eD 4], guard := none }) (v := ?_) rfl (by kernel_rfl) (by kernel_rfl) (by kernel_rfl) (fun _ _ _ h => h) (Or.inl ⟨rfl, ?_⟩) hHeld ?_
  rotate_left
  · (intro wz hSw; (try dsimp only at hSw); go_simp; try with_reducible rfl)
  try simp only [Act.put, List.setIfInBounds_toArray, List.set_cons_zero, List.set_cons_succ]
  refine wpAnyH_take (i := 6) (oi := { dst := some 37, op := Op.extract (Operand.tmp 31) 1, type := 31, pos := "law.go:93", after := #[eD 4, eL 7], guard := none }) (v := ?_) rfl (by kernel_rfl) (by kernel_rfl) (by kernel_rfl) (fun _ _ _ h => h) (Or.inl ⟨rfl, ?_⟩) hHeld ?_
  rotate_left
  · (intro wz hSw; (try dsimp only at hSw); go_simp; try with_reducible rfl)
  try simp only [Act.put, List.setIfInBounds_toArray, List.set_cons_zero, List.set_cons_succ]
  refine wpAnyH_take (i := 7) (oi := { dst := some 10, op := Op.assign (Operand.tmp 36), type := 30, pos := "law.go:93", after := #[eD 5, eC 3, eP 0, eP 1, eP 2, eP 3, eP 4, eP 5, eT 6], guard := none }) (v := ?_) rfl (by kernel_rfl) (by kernel_rfl) (by kernel_rfl) (fun _ _ _ h => h) (Or.inl ⟨rfl, ?_⟩) hHeld ?_
  rotate_left
  · (intro wz hSw; (try dsimp only at hSw); go_simp; try with_reducible rfl)
  try simp only [Act.put, List.setIfInBounds_toArray, List.set_cons_zero, List.set_cons_succ]
  refine wpAnyH_take (i := 8) (oi := { dst := some 11, op := Op.assign (Operand.tmp 37), type := 31, pos := "law.go:93", after := #[eD 6, eC 7, eP 0, eP 1, eP 2, eP 3, eP 4, eP 5, eP 6, eP 7], guard := none }) (v := ?_) rfl (by kernel_rfl) (by kernel_rfl) (by kernel_rfl) (fun _ _ _ h => h) (Or.inl ⟨rfl, ?_⟩) hHeld ?_
  rotate_left
  · (intro wz hSw; (try dsimp only at hSw); go_simp; try with_reducible rfl)
  try simp only [Act.put, List.setIfInBounds_toArray, List.set_cons_zero, List.set_cons_succ]
  refine wpAnyH_done (by kernel_rfl) ?_ _
  have hFr := Lib.hid (X.Four.put hFr.out mTb m1b.p.sub (fun k hk => Nat.le_trans p2b.size (m1b.fF k hk)))
  have hMb := Lib.hid m1b.p
  have hNd := Lib.hid (hNd.out.turn0 mTb)
  replace hMa := Lib.hid (hMa.out.turn mTb fun _ _ h => h)
  have hS0 := hHeld
  clear hHeld m1b m2b mTb p1b p2b p3b
  replace hS0 := (show _ ∧ _ ∧ _ from ⟨hS0.1.drew, hS0.2.1.drew, hS0.2.2.drew⟩)
  replace hS0 := Lib.hid hS0
  replace hFr := Lib.hid (hFr.out.rot.turn0 (Turn.refl T0 _).drew)
  replace hNd := Lib.hid (show Has (g + 1) #[.int .i8 n0, .int .i8 n1] 39 web.drew from hNd.out)
  replace hMa := Lib.hid (hMa.out.kept (Kept.refl _).drew)
  replace hMb := Lib.hid (hMb.out.kept (Kept.refl _).drew)
  go_upto_region 5 with (fail)
  refine wp_region_held_drew (S := fun wz => Has g (X.setC s p (.slice ai ni ci)) 28 wz ∧ Ws wz ap n c xs ∧ Ws wz ai ni ci is) (by kernel_rfl) ?_ (fun hHeld => ?_)
  · exact hS0.out
  refine wpAnyH_take (i := 0) (oi := { dst := some 39, op := Op.move (Operand.tmp 0), type := 22, pos := "law.go:94", after := #[], guard := none }) (v := ?_) rfl (by kernel_rfl) (by kernel_rfl) (by kernel_rfl) (fun _ _ _ h => h) (Or.inl ⟨rfl, ?_⟩) hHeld ?_
  rotate_left
  · (intro wz hSw; (try dsimp only at hSw); go_simp; try with_reducible rfl)
  try simp only [Act.put, List.setIfInBounds_toArray, List.set_cons_zero, List.set_cons_succ]
  refine wpAnyH_take (i := 2) (oi := { dst := some 41, op := Op.load 28 (Operand.tmp 4), type := 28, pos := "law.go:94", after := #[], guard := none }) (v := ?_) rfl (by kernel_rfl) (by kernel_rfl) (by kernel_rfl) (fun _ _ _ h => h) (Or.inl ⟨rfl, ?_⟩) hHeld ?_
  rotate_left
  · (intro wz hSw; refine exec_load_has 28 (Operand.tmp 4) ?_ _ ?_ hSw.1 Tryz.underlying28 rfl (by kernel_rfl) <;> rfl)
  try simp only [Act.put, List.setIfInBounds_toArray, List.set_cons_zero, List.set_cons_succ]
  refine wpAnyH_ready (rs := [1]) (by kernel_rfl) (by simp) ?_
  refine AllReadyH.cons (o := { dst := some 40, op := Op.call { callee := Callee.value (Operand.func 9), args := #[Operand.tmp 39], argTypes := #[22] }, type := 22, pos := "law.go:94", after := #[eD 0], guard := none }) rfl (fun K hK => ?_) (AllReadyH.nil)
  go_simp
  go_at_call 9
  refine (fitw_any hHeld.2.1).mono ?_
  rintro e wdc ⟨gfc, cfc, rfl, p1c, p2c, p3c⟩
  have hN := (show (fun wz => Has g (X.setC s p (.slice ai ni ci)) 28 wz ∧ Ws wz ap n c xs ∧ Ws wz ai ni ci is) _ from ⟨hHeld.1.turn0 (below_turn0 p2c), hHeld.2.1.turn0 (below_turn0 p2c), hHeld.2.2.turn0 (below_turn0 p2c)⟩)
  clear hHeld
  refine hK.out _ _ hN (fun hHeld => ?_)
  clear hK K hN
  try simp only [Act.put, List.setIfInBounds_toArray, List.set_cons_zero, List.set_cons_succ]
  refine wpAnyH_ready (rs := [3]) (by kernel_rfl) (by simp) ?_
  refine AllReadyH.cons (o := { dst := some 42, op := Op.call { callee := Callee.value (Operand.func 7), args := #[Operand.tmp 40, Operand.tmp 41], argTypes := #[22, 28] }, type := 32, pos := "law.go:94", after := #[eD 1, eD 2, eC 1], guard := none }) rfl (fun K hK => ?_) (AllReadyH.nil)
  go_simp
  go_at_call 7
  refine (made_any p1c (Nat.min_le_right _ _) s p hHeld.2.2 hs q0 q1).mono ?_
  rintro e wec ⟨Bc, Ec, rfl, Fc, Gc, m1c, m2c⟩
  have mTc := (below_turn0 p2c).trans m2c
  have hN := (show (fun wz => Has g (X.setC s p (.slice ai ni ci)) 28 wz ∧ Ws wz ap n c xs ∧ Ws wz ai ni ci is) _ from ⟨hHeld.1.turn0 m2c, hHeld.2.1.turn0 m2c, hHeld.2.2.turn0 m2c⟩)
  clear hHeld
  refine hK.out _ _ hN (fun hHeld => ?_)
  clear hK K hN
  try simp only [Act.put, List.setIfInBounds_toArray, List.set_cons_zero, List.set_cons_succ]
  refine wpAnyH_take (i := 4) (oi := { dst := some 38, op := Op.move (Operand.tmp 42), type := 32, pos := "law.go:94", after := #[eD 3], guard := none }) (v := ?_) rfl (by kernel_rfl) (by kernel_rfl) (by kernel_rfl) (fun _ _ _ h => h) (Or.inl ⟨rfl, ?_⟩) hHeld ?_
  rotate_left
  · (intro wz hSw; (try dsimp only at hSw); go_simp; try with_reducible rfl)
  try simp only [Act.put, List.setIfInBounds_toArray, List.set_cons_zero, List.set_cons_succ]
  refine wpAnyH_take (i := 5) (oi := { dst := some 43, op := Op.extract (Operand.tmp 38) 0, type := 30, pos := "law.go:94", after := #[eD 4], guard := none }) (v := ?_) rfl (by kernel_rfl) (by kernel_rfl) (by kernel_rfl) (fun _ _ _ h => h) (Or.inl ⟨rfl, ?_⟩) hHeld ?_
  rotate_left
  · (intro wz hSw; (try dsimp only at hSw); go_simp; try with_reducible rfl)
  try simp only [Act.put, List.setIfInBounds_toArray, List.set_cons_zero, List.set_cons_succ]
  refine wpAnyH_take (i := 6) (oi := { dst := some 44, op := Op.extract (Operand.tmp 38) 1, type := 31, pos := "law.go:94", after := #[eD 4, eL 7], guard := none }) (v := ?_) rfl (by kernel_rfl) (by kernel_rfl) (by kernel_rfl) (fun _ _ _ h => h) (Or.inl ⟨rfl, ?_⟩) hHeld ?_
  rotate_left
  · (intro wz hSw; (try dsimp only at hSw); go_simp; try with_reducible rfl)
  try simp only [Act.put, List.setIfInBounds_toArray, List.set_cons_zero, List.set_cons_succ]
  refine wpAnyH_take (i := 7) (oi := { dst := some 12, op := Op.assign (Operand.tmp 43), type := 30, pos := "law.go:94", after := #[eD 5, eC 3, eP 0, eP 1, eP 2, eP 3, eP 4, eP 5, eT 6], guard := none }) (v := ?_) rfl (by kernel_rfl) (by kernel_rfl) (by kernel_rfl) (fun _ _ _ h => h) (Or.inl ⟨rfl, ?_⟩) hHeld ?_
  rotate_left
  · (intro wz hSw; (try dsimp only at hSw); go_simp; try with_reducible rfl)
  try simp only [Act.put, List.setIfInBounds_toArray, List.set_cons_zero, List.set_cons_succ]
  refine wpAnyH_take (i := 8) (oi := { dst := some 13, op := Op.assign (Operand.tmp 44), type := 31, pos := "law.go:94", after := #[eD 6, eC 7, eP 0, eP 1, eP 2, eP 3, eP 4, eP 5, eP 6, eP 7], guard := none }) (v := ?_) rfl (by kernel_rfl) (by kernel_rfl) (by kernel_rfl) (fun _ _ _ h => h) (Or.inl ⟨rfl, ?_⟩) hHeld ?_
  rotate_left
  · (intro wz hSw; (try dsimp only at hSw); go_simp; try with_reducible rfl)
  try simp only [Act.put, List.setIfInBounds_toArray, List.set_cons_zero, List.set_cons_succ]
  refine wpAnyH_done (by kernel_rfl) ?_ _
  have hFr := Lib.hid (X.Four.put hFr.out mTc m1c.p.sub (fun k hk => Nat.le_trans p2c.size (m1c.fF k hk)))
  have hMc := Lib.hid m1c.p
  have hNd := Lib.hid (hNd.out.turn0 mTc)
  replace hMa := Lib.hid (hMa.out.turn mTc fun _ _ h => h)
  replace hMb := Lib.hid (hMb.out.turn mTc fun _ _ h => h)
  have hS0 := hHeld
  clear hHeld m1c m2c mTc p1c p2c p3c
  clear hS0
  replace hFr := Lib.hid hFr.out.rot.rot
  generalize hx0 : (⟨M.placed (List.replicate (min n 20 + 4) 0) 0 ((xs.map X.fit1).take 20), s, p, 0, is.take 20, []⟩ : X.St) = x0 at *
  have ho0 : x0.outs.length = 0 := by rw [← hx0]; rfl
  clear hx0
  have cn0 : wec.cell? ⟨g + 1, 0, none⟩ = some (.int .i8 n0) := hNd.out.cell 0 _ rfl
  have cn1 : wec.cell? ⟨g + 1, 1, none⟩ = some (.int .i8 n1) := hNd.out.cell 1 _ rfl
  have hX : X.Trio w Ba Bb Bc x0 x0 x0 wec := ⟨Fa, Fb, Fc, hFr.out, hMa.out, hMb.out, hMc.out⟩
  replace hX := Lib.hid hX
  clear hFr hMa hMb hMc hNd
  go_wp2_with (fail)
  refine (hX.out.run a a (by omega) (by omega) (by omega) (by omega)).mono ?_; rintro e w5 ⟨rfl, hX5⟩
  have hl5 := X.go_outs a x0
  replace hX5 := Lib.hid hX5
  clear hX
  have cn1 : w5.cell? ⟨g + 1, 1, none⟩ = w5.cell? ⟨g + 1, 1, none⟩ := rfl
  clear cn1
  go_wp2_with (fail)
  refine (hX5.out.run b b (by omega) (by omega) (by omega) (by omega)).mono ?_; rintro e w6 ⟨rfl, hX6⟩
  rw [← X.go_add] at hX6 ⊢
  replace hX6 := Lib.hid hX6.rot
  clear hX5
  go_wp2_with (fail)
  have CB := hX6.out.run ((a : Int) + b) (a + b) (by omega) (by omega) (by omega) (by omega)
  refine CB.mono ?_; rintro e w7 ⟨rfl, hX7⟩
  replace hX7 := Lib.hid hX7.rot
  clear hX6 CB
  go_wp2
  go_loopw [18] (fun i wr => ∃ k : Nat, k ≤ a + b ∧ i = .int .i64 k ∧ X.Trio w Bc Ba Bb (X.go k x0) (X.go (a + b) x0) (X.go (a + b) x0) wr) (fun i _ => (a + b) - (intOf i).toNat)
  case atStart => exact ⟨0, Nat.zero_le _, rfl, hX7.out⟩
  case round =>
    obtain ⟨k, hk, rfl, hXr⟩ := hrel
    replace hXr := Lib.hid hXr
    by_cases d1 : k < a + b
    · have d2 : (k : Int) < (a : Int) + b := by omega
      have hl := X.go_outs k x0
      have C := hXr.out.step (by omega)
      rw [← X.go_succ] at C
      go_wp2_with (go_at_call 10; refine C.mono ?_; rintro e w8 ⟨rfl, hX8⟩)
      go_roundw
      case rel => exact ⟨k + 1, by omega, by go_num, hX8⟩
      case measure => simp [intOf]; omega
    · have d2 : ¬ (k : Int) < (a : Int) + b := by omega
      obtain rfl : k = a + b := by omega
      have hl := X.go_outs (a + b) x0
      clear hX7
      generalize X.go (a + b) x0 = x at *
      have hoi : x.outs.length ≤ 1000000000 := by omega
      have hq := A.eql x.s
      go_wp2_with (fail)
      refine (hXr.out.run (-1) 0 (by omega) (by omega) (by omega) (by omega)).mono ?_; rintro e w8 ⟨rfl, hX8⟩
      replace hX8 := Lib.hid (show X.Trio w Bc Ba Bb x x x w8 from hX8)
      clear hXr
      go_wp2_with (fail)
      refine (hX8.out.run 0 0 (by omega) (by omega) (by omega) (by omega)).mono ?_; rintro e w9 ⟨rfl, hX9⟩
      replace hX9 := Lib.hid (show X.Trio w Bc Ba Bb x x x w9 from hX9)
      clear hX8
      go_wp2_with (fail)
      refine hX9.out.status.mono ?_; rintro e w9' ⟨rfl, rfl⟩
      replace hX9 := Lib.hid hX9.out.rot
      go_wp2_with (fail)
      refine hX9.out.pc.mono ?_; rintro e w9' ⟨rfl, rfl⟩
      go_wp2_with (fail)
      refine hX9.out.rot.pc.mono ?_; rintro e w9' ⟨rfl, rfl⟩
      go_wp2_with (fail)
      refine hX9.out.regs.mono ?_; rintro e wa ⟨rfl, hXa⟩
      replace hXa := Lib.hid hXa
      clear hX9
      go_wp2_with (fail)
      refine hXa.out.rot.regs.mono ?_; rintro e wb ⟨rfl, hXb⟩
      replace hXb := Lib.hid hXb.rot.rot
      clear hXa
      go_wp2_with (fail)
      refine hXb.out.pc.mono ?_; rintro e wb' ⟨rfl, rfl⟩
      go_wp2_with (fail)
      refine hXb.out.rot.rot.pc.mono ?_; rintro e wb' ⟨rfl, rfl⟩
      go_wp2_with (fail)
      refine hXb.out.regs.mono ?_; rintro e wc ⟨rfl, hXc⟩
      replace hXc := Lib.hid hXc
      clear hXb
      go_wp2_with (fail)
      refine hXc.out.rot.rot.regs.mono ?_; rintro e wd ⟨rfl, hXd⟩
      replace hXd := Lib.hid hXd.rot
      clear hXc
      go_wp2_with (fail)
      refine (hXd.out.outs hoi).mono ?_; rintro e we ⟨A1, c1, rfl, o1, hXe, _⟩
      replace hXe := Lib.hid hXe
      replace o1 := Lib.hid o1
      clear hXd
      go_wp2_with (fail)
      refine (hXe.out.rot.outs hoi).mono ?_; rintro e wf ⟨A2, c2, rfl, o2, hXf, tf⟩
      have CS := same_any (o1.out.turn0 tf) o2
      rw [decide_eq_true (rfl : x.outs = x.outs)] at CS
      replace CS := Lib.hid CS
      replace hXf := Lib.hid hXf.rot.rot
      clear hXe o1 o2 tf
      go_wp2_with (fail)
      refine CS.out.mono ?_; rintro e wg ⟨rfl, hKg⟩
      replace hXf := Lib.hid (hXf.out.kept hKg)
      clear CS hKg
      go_wp2_with (fail)
      refine hXf.out.words.mono ?_; rintro e wh ⟨g1, rfl, o1, hXh, _⟩
      replace hXh := Lib.hid hXh
      replace o1 := Lib.hid o1
      clear hXf
      go_wp2_with (fail)
      refine hXh.out.rot.rot.words.mono ?_; rintro e wi ⟨g2, rfl, o2, hXi, ti⟩
      have CS := same_any (o1.out.turn0 ti) o2
      rw [decide_eq_true (rfl : x.ws = x.ws)] at CS
      replace CS := Lib.hid CS
      replace hXi := Lib.hid hXi.rot.rot
      clear hXh o1 o2 ti
      go_wp2_with (fail)
      refine CS.out.mono ?_; rintro e wj ⟨rfl, hKj⟩
      replace hXi := Lib.hid (hXi.out.kept hKj)
      clear CS hKj
      go_wp2_with (fail)
      refine (hXi.out.outs hoi).mono ?_; rintro e wk ⟨A3, c3, rfl, o1, hXk, _⟩
      replace hXk := Lib.hid hXk
      replace o1 := Lib.hid o1
      clear hXi
      go_wp2_with (fail)
      refine (hXk.out.rot.outs hoi).mono ?_; rintro e wl ⟨A4, c4, rfl, o2, hXl, tl⟩
      have CS := same_any (o1.out.turn0 tl) o2
      rw [decide_eq_true (rfl : x.outs = x.outs)] at CS
      replace CS := Lib.hid CS
      have hbl := hXl.b
      clear hXk o1 o2 tl hXl
      go_wp2_with (fail)
      refine CS.out.mono ?_; rintro e wm ⟨rfl, hKm⟩
      have hbf := Lib.hid (below_kept hbl hKm hbl.size)
      clear CS hKm hbl
      go_wp2
      go_ret
      exact ⟨rfl, hbf.out⟩
end Go.Proofs.YtlmddkciamdldaaGreat
