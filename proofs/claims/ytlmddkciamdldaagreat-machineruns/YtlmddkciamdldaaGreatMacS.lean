/-
  The law MachineStops.
-/
import Derived.Test.YtlmddkciamdldaaGreatQf
namespace Go.Proofs.YtlmddkciamdldaaGreat
open Go.RowKit
set_option linter.unusedVariables false
set_option linter.unusedSimpArgs false
set_option maxRecDepth 100000
/-- what a round of MachineStops holds to: the machine behind its step, and what was told ahead of it -/
structure X.Sv (w0 : World) (F : Nat → Prop) (B : Nat) (x : X.St) (g : Nat) (s : A.Regs) (gw : Nat) (ws : List Int) (ap : Option Addr) (co : Nat) (os : List Int) (w : World) : Prop where
  mac : Mac F B x w
  fF : ∀ k, F k → w0.heap.size ≤ k
  regs : Has g (A.cells s) 26 w
  words : Ws w (some ⟨gw, 0, none⟩) ws.length ws.length ws
  outs : Ws w ap os.length co os
  b : Below w0.heap.size w0 w
theorem X.Sv.turn0 {w0 : World} {F : Nat → Prop} {B : Nat} {x : X.St} {g : Nat} {s : A.Regs} {gw : Nat} {ws : List Int} {ap : Option Addr} {co : Nat} {os : List Int} {w w' : World} (h : X.Sv w0 F B x g s gw ws ap co os w) (hT : Turn T0 w w') : X.Sv w0 F B x g s gw ws ap co os w' :=
  ⟨h.mac.turn hT fun _ _ h => h, h.fF, (hT.block _ h.regs.lt id).trans h.regs, h.words.turn0 hT, h.outs.turn0 hT, h.b.trans (hT.below w0.heap.size h.b.size fun _ h => h.elim)⟩
set_option maxHeartbeats 4000000 in
theorem walk_Stops {w : World} {ap : Option Addr} {n c : Nat} {xs : List Int} (hl : Ws w ap n c xs) (s : A.Regs) (pc : Int) {ai : Option Addr} {ni ci : Nat} {is : List Int} (hi : Ws w ai ni ci is) (hs : A.Ok s) (p0 : 0 ≤ pc) (p1 : pc < 4294967296) :
    Calls Tryz.prog 5 #[.slice ap n c, .agg (X.setC s pc (.slice ai ni ci))] w fun e w' => e = .returned (.bool true) ∧ Below w.heap.size w w' := by
  obtain ⟨p, hp⟩ : ∃ p, pc % 80 = p := ⟨_, rfl⟩
  have q0 : 0 ≤ p := by omega
  have q1 : p < 4294967296 := by omega
  have hL := Lib.hid hl
  have hI := Lib.hid hi
  clear hl hi
  go_enter Tryz.func5, Tryz.ntmps5
  go_wp2_with (fail)
  refine (shown_any _).mono ?_; rintro e w1 ⟨rfl, hT1⟩
  have hA := (Kept.refl w).alloc (X.setC s pc (.slice ai ni ci)) 28
  have hTw1 : Turn T0 w w1 := (hA.turn T0).trans hT1
  have hS1 : Has w.heap.size (X.setC s pc (.slice ai ni ci)) 28 w1 := (hT1.block _ (Has.new _ _ w).lt id).trans (Has.new _ _ w)
  have hL1 := hL.out.to (w' := w1) fun ad e hn => hTw1.block _ (by subst e; exact hL.out.lt hn) id
  have hI1 := hI.out.to (w' := w1) fun ad e hn => hTw1.block _ (by subst e; exact hI.out.lt hn) id
  have hLb : ∀ ad, ap = some ad → 0 < n → ad.block < w.heap.size := fun ad e hn => by subst e; exact hL.out.lt hn
  have hIb : ∀ ad, ai = some ad → 0 < ni → ad.block < w.heap.size := fun ad e hn => by subst e; exact hI.out.lt hn
  have cp : w1.cell? ⟨w.heap.size, 21, none⟩ = some (.int .u32 pc) := hS1.cell 21 _ rfl
  have fp := hS1.free 21
  have hB2 : But w.heap.size w1 (w1.setCell ⟨w.heap.size, 21, none⟩ (.int .u32 p)) := (But.refl _ w1).setCell _ _
  have hS2 : Has w.heap.size (X.setC s p (.slice ai ni ci)) 28 (w1.setCell ⟨w.heap.size, 21, none⟩ (.int .u32 p)) := hS1.set 21 _
  have hL2 := hL1.but hB2 fun ad e hn => by have := hLb ad e hn; omega
  have hI2 := hI1.but hB2 fun ad e hn => by have := hIb ad e hn; omega
  have hTw2 : Turn T0 w (w1.setCell ⟨w.heap.size, 21, none⟩ (.int .u32 p)) := hTw1.then (hB2.turn (F := fun k => w.heap.size ≤ k) (Nat.le_refl _)) fun k hk => Or.inr hk
  have hS0 : Has w.heap.size (X.setC s p (.slice ai ni ci)) 28 (w1.setCell ⟨w.heap.size, 21, none⟩ (.int .u32 p)).drew ∧ Ws (w1.setCell ⟨w.heap.size, 21, none⟩ (.int .u32 p)).drew ap n c xs ∧ Ws (w1.setCell ⟨w.heap.size, 21, none⟩ (.int .u32 p)).drew ai ni ci is := ⟨hS2, hL2.drew, hI2.drew⟩
  have hTd : Turn T0 w (w1.setCell ⟨w.heap.size, 21, none⟩ (.int .u32 p)).drew := hTw2.drew
  replace hS0 := Lib.hid hS0
  replace hTd := Lib.hid hTd
  clear hA hT1 hTw1 hS1 hL1 hI1 hB2 hS2 hL2 hI2 hTw2 hL hI hLb hIb
  go_upto_region 3 with (fail)
  clear cp fp
  generalize hg : w.heap.size = g at *
  generalize w1.setCell _ _ = w2 at *
  refine wp_region_held_drew (S := fun wz => Has g (X.setC s p (.slice ai ni ci)) 28 wz ∧ Ws wz ap n c xs ∧ Ws wz ai ni ci is) (by kernel_rfl) ?_ (fun hHeld => ?_)
  · exact hS0.out
  refine wpAnyH_take (i := 0) (oi := { dst := some 23, op := Op.move (Operand.tmp 0), type := 22, pos := "law.go:116", after := #[], guard := none }) (v := ?_) rfl (by kernel_rfl) (by kernel_rfl) (by kernel_rfl) (fun _ _ _ h => h) (Or.inl ⟨rfl, ?_⟩) hHeld ?_
  rotate_left
  · (intro wz hSw; (try dsimp only at hSw); go_simp; try with_reducible rfl)
  try simp only [Act.put, List.setIfInBounds_toArray, List.set_cons_zero, List.set_cons_succ]
  refine wpAnyH_take (i := 2) (oi := { dst := some 25, op := Op.load 28 (Operand.tmp 3), type := 28, pos := "law.go:116", after := #[], guard := none }) (v := ?_) rfl (by kernel_rfl) (by kernel_rfl) (by kernel_rfl) (fun _ _ _ h => h) (Or.inl ⟨rfl, ?_⟩) hHeld ?_
  rotate_left
  · (intro wz hSw; refine exec_load_has 28 (Operand.tmp 3) ?_ _ ?_ hSw.1 Tryz.underlying28 rfl (by kernel_rfl) <;> rfl)
  try simp only [Act.put, List.setIfInBounds_toArray, List.set_cons_zero, List.set_cons_succ]
  refine wpAnyH_ready (rs := [1]) (by kernel_rfl) (by simp) ?_
  refine AllReadyH.cons (o := { dst := some 24, op := Op.call { callee := Callee.value (Operand.func 9), args := #[Operand.tmp 23], argTypes := #[22] }, type := 22, pos := "law.go:116", after := #[eD 0], guard := none }) rfl (fun K hK => ?_) (AllReadyH.nil)
  go_simp
  go_at_call 9
  refine (fitw_any hHeld.2.1).mono ?_
  rintro e wd ⟨gf, cf, rfl, p1, p2, p3⟩
  have hN := (show (fun wz => Has g (X.setC s p (.slice ai ni ci)) 28 wz ∧ Ws wz ap n c xs ∧ Ws wz ai ni ci is) _ from ⟨hHeld.1.turn0 (below_turn0 p2), hHeld.2.1.turn0 (below_turn0 p2), hHeld.2.2.turn0 (below_turn0 p2)⟩)
  clear hHeld
  refine hK.out _ _ hN (fun hHeld => ?_)
  clear hK K hN
  try simp only [Act.put, List.setIfInBounds_toArray, List.set_cons_zero, List.set_cons_succ]
  refine wpAnyH_ready (rs := [3]) (by kernel_rfl) (by simp) ?_
  refine AllReadyH.cons (o := { dst := some 26, op := Op.call { callee := Callee.value (Operand.func 7), args := #[Operand.tmp 24, Operand.tmp 25], argTypes := #[22, 28] }, type := 32, pos := "law.go:116", after := #[eD 1, eD 2, eC 1], guard := none }) rfl (fun K hK => ?_) (AllReadyH.nil)
  go_simp
  go_at_call 7
  refine (made_any p1 (Nat.min_le_right _ _) s p hHeld.2.2 hs q0 q1).mono ?_
  rintro e we ⟨B, E, rfl, F, G, m1, m2⟩
  have mT := (below_turn0 p2).trans m2
  have hN := (show (fun wz => Has g (X.setC s p (.slice ai ni ci)) 28 wz ∧ Ws wz ap n c xs ∧ Ws wz ai ni ci is) _ from ⟨hHeld.1.turn0 m2, hHeld.2.1.turn0 m2, hHeld.2.2.turn0 m2⟩)
  clear hHeld
  refine hK.out _ _ hN (fun hHeld => ?_)
  clear hK K hN
  try simp only [Act.put, List.setIfInBounds_toArray, List.set_cons_zero, List.set_cons_succ]
  refine wpAnyH_take (i := 4) (oi := { dst := some 22, op := Op.move (Operand.tmp 26), type := 32, pos := "law.go:116", after := #[eD 3], guard := none }) (v := ?_) rfl (by kernel_rfl) (by kernel_rfl) (by kernel_rfl) (fun _ _ _ h => h) (Or.inl ⟨rfl, ?_⟩) hHeld ?_
  rotate_left
  · (intro wz hSw; (try dsimp only at hSw); go_simp; try with_reducible rfl)
  try simp only [Act.put, List.setIfInBounds_toArray, List.set_cons_zero, List.set_cons_succ]
  refine wpAnyH_take (i := 5) (oi := { dst := some 27, op := Op.extract (Operand.tmp 22) 0, type := 30, pos := "law.go:116", after := #[eD 4], guard := none }) (v := ?_) rfl (by kernel_rfl) (by kernel_rfl) (by kernel_rfl) (fun _ _ _ h => h) (Or.inl ⟨rfl, ?_⟩) hHeld ?_
  rotate_left
  · (intro wz hSw; (try dsimp only at hSw); go_simp; try with_reducible rfl)
  try simp only [Act.put, List.setIfInBounds_toArray, List.set_cons_zero, List.set_cons_succ]
  refine wpAnyH_take (i := 6) (oi := { dst := some 28, op := Op.extract (Operand.tmp 22) 1, type := 31, pos := "law.go:116", after := #[eD 4, eL 7], guard := none }) (v := ?_) rfl (by kernel_rfl) (by kernel_rfl) (by kernel_rfl) (fun _ _ _ h => h) (Or.inl ⟨rfl, ?_⟩) hHeld ?_
  rotate_left
  · (intro wz hSw; (try dsimp only at hSw); go_simp; try with_reducible rfl)
  try simp only [Act.put, List.setIfInBounds_toArray, List.set_cons_zero, List.set_cons_succ]
  refine wpAnyH_take (i := 7) (oi := { dst := some 6, op := Op.assign (Operand.tmp 27), type := 30, pos := "law.go:116", after := #[eD 5, eC 3, eP 0, eP 1, eP 2, eP 3, eP 4, eP 5, eT 6], guard := none }) (v := ?_) rfl (by kernel_rfl) (by kernel_rfl) (by kernel_rfl) (fun _ _ _ h => h) (Or.inl ⟨rfl, ?_⟩) hHeld ?_
  rotate_left
  · (intro wz hSw; (try dsimp only at hSw); go_simp; try with_reducible rfl)
  try simp only [Act.put, List.setIfInBounds_toArray, List.set_cons_zero, List.set_cons_succ]
  refine wpAnyH_take (i := 8) (oi := { dst := some 7, op := Op.assign (Operand.tmp 28), type := 31, pos := "law.go:116", after := #[eD 6, eC 7, eP 0, eP 1, eP 2, eP 3, eP 4, eP 5, eP 6, eP 7], guard := none }) (v := ?_) rfl (by kernel_rfl) (by kernel_rfl) (by kernel_rfl) (fun _ _ _ h => h) (Or.inl ⟨rfl, ?_⟩) hHeld ?_
  rotate_left
  · (intro wz hSw; (try dsimp only at hSw); go_simp; try with_reducible rfl)
  try simp only [Act.put, List.setIfInBounds_toArray, List.set_cons_zero, List.set_cons_succ]
  refine wpAnyH_done (by kernel_rfl) ?_ _
  have hTx := hTd.out.trans mT
  have hx := m1.p
  have hFx : ∀ k, F k → g ≤ k := fun k hk => Nat.le_trans (hg ▸ hTd.out.size) (Nat.le_trans p2.size (m1.fF k hk))
  have hbx : Below g w we := by rw [← hg]; exact hTx.below _ (Nat.le_refl _) fun _ h => h.elim
  replace hx := Lib.hid hx
  replace hbx := Lib.hid hbx
  clear hHeld m1 m2 mT p1 p2 p3 hTx hTd hS0
  generalize hx0 : (⟨M.placed (List.replicate (min n 20 + 4) 0) 0 ((xs.map X.fit1).take 20), s, p, 0, is.take 20, []⟩ : X.St) = x0 at *
  have h00 : 0 ≤ x0.st ∧ x0.st ≤ 5 := by rw [← hx0]; simp
  have ho0 : x0.outs.length = 0 := by rw [← hx0]; rfl
  clear hx0
  go_wp2
  go_loopw [8] (fun i wr => ∃ (k : Nat) (F : Nat → Prop), k ≤ 40 ∧ i = .int .i64 k ∧ Mac F B (X.go k x0) wr ∧ (∀ j, F j → g ≤ j) ∧ Below g w wr) (fun i _ => 40 - (intOf i).toNat)
  case atStart => exact ⟨0, F, Nat.zero_le _, rfl, hx.out, hFx, hbx.out⟩
  case round =>
    obtain ⟨k, F, hk, rfl, hM, hF, hb⟩ := hrel
    by_cases d1 : k < 40
    · have d2 : (k : Int) < 40 := by omega
      have hlo := X.go_outs k x0
      have hst := X.go_st x0 h00 (k + 1)
      have hss := X.step_same (X.go k x0)
      rw [X.go_succ] at hst
      have hgs := X.go_succ k x0
      generalize X.go k x0 = x at *
      have hoi : x.outs.length ≤ 1000000000 := by omega
      have hoj : x.outs.length < 1000000 := by omega
      replace hM := Lib.hid hM
      replace hb := Lib.hid hb
      go_wp2_with (fail)
      refine (regs_any hM.out).mono ?_; rintro e w3 ⟨rfl, hK3⟩
      have hK4 := hK3.alloc (A.cells x.s) 26
      have hM4 := Lib.hid (hM.out.kept hK4)
      have hR4 := Lib.hid (Has.new (A.cells x.s) 26 w3)
      have hb4 := Lib.hid (hb.out.trans ((hK4.turn T0).below g (by have := hb.out.size; omega) fun _ h => h.elim))
      have hn9 : ¬ F w3.heap.size := fun hh => by have := hM.out.sub _ hh; have := hK3.size; omega
      clear hK3 hK4 hM hb
      go_wp2_with (with_reducible refine store_last rfl 26 _ _ rfl _ _ rfl rfl rfl (A.info25 _) (by kernel_rfl) (A.one_cells _) ?_)
      generalize w3.heap.size = g9 at *
      generalize w3.alloc (Obj.cells _ _) = w4 at *
      refine (pc_any hM4.out).mono ?_; rintro e w4' ⟨rfl, rfl⟩
      go_wp2_with (fail)
      refine (words_any hM4.out).mono ?_; rintro e w5 ⟨gw, rfl, pw1, pw2, pw3⟩
      have hM5 := Lib.hid (hM4.out.kept pw3)
      have hR5 := Lib.hid (hR4.out.kept pw3)
      have hb5 := Lib.hid (hb4.out.trans ((pw3.turn T0).below g (by have := hb4.out.size; omega) fun _ h => h.elim))
      have hnw : ¬ F gw := fun hh => by have := hM4.out.sub _ hh; omega
      replace pw2 := Lib.hid pw2
      clear pw3 hM4 hR4 hb4
      go_wp2_with (fail)
      refine (outs_any hM5.out hoi).mono ?_; rintro e w6 ⟨ao, co, rfl, po1, po2, po3⟩
      have hM6 := Lib.hid (hM5.out.turn po2 fun _ _ h => h)
      have hR6 := Lib.hid (hR5.out.turn0 po2)
      have hb6 := Lib.hid (hb5.out.trans (po2.below g (by have := hb5.out.size; omega) fun _ h => h.elim))
      have hW6 := Lib.hid (pw2.out.turn0 po2)
      have hno : ∀ ad, ao = some ad → ¬ F ad.block := fun ad e hh => by have := hM5.out.sub _ hh; have := (po3 ad e).1; omega
      replace po1 := Lib.hid po1
      clear po2 po3 hM5 hR5 hb5 pw2
      go_wp2_with (fail)
      refine (status_any hM6.out).mono ?_; rintro e w6' ⟨rfl, rfl⟩
      go_wp2_with (fail)
      refine (step_any hM6.out hoj).mono ?_; rintro e w7 ⟨rfl, F', ps1, ps2, ps3⟩
      have hSv : X.Sv w F' B (X.step x) g9 x.s gw x.ws ao co x.outs w7 := ⟨ps1, (fun j hj => by
          rcases ps3 j hj with h1 | h1
          · rw [hg]; exact hF j h1
          · have := hb6.out.size; omega), (ps2.block _ hR6.out.lt hn9).trans hR6.out, hW6.out.turn ps2 (fun ad e _ => by cases e; exact hnw), po1.out.turn ps2 (fun ad e _ => hno ad e), by rw [hg]; exact hb6.out.trans (ps2.below g (by have := hb6.out.size; omega) hF)⟩
      clear ps1 ps2 ps3 hM6 hR6 hb6 hW6 po1
      replace hSv := Lib.hid hSv
      have h1 : ¬ (X.step x).st < 0 := by omega
      have h2 : ¬ (X.step x).st > 5 := by omega
      have h1' : decide ((X.step x).st < 0) = false := decide_eq_false h1
      have h2' : decide ((X.step x).st > 5) = false := decide_eq_false h2
      go_wp2_with (fail)
      refine (status_any hSv.out.mac).mono ?_; rintro e w7' ⟨rfl, rfl⟩
      by_cases c1 : x.st = 0
      · have c1' : (x.st == 0) = true := by simpa using c1
        have c1'' : (x.st != 0) = false := by simpa using c1
        by_cases c2 : 1 < (X.step x).st
        · have c2' : decide ((X.step x).st > 1) = true := decide_eq_true c2
          obtain ⟨e1, e2, e3, e4⟩ := hss (Or.inr c2)
          go_upto_region 19 with (fail)
          refine wp_region_held_drew (S := fun wz => X.Sv w F' B (X.step x) g9 x.s gw x.ws ao co x.outs wz) (by kernel_rfl) ?_ (fun hHeld => ?_)
          · exact hSv.out.turn0 ((Kept.refl _).drew.turn T0)
          refine wpAnyH_take (i := 0) (oi := { dst := some 67, op := Op.move (Operand.tmp 15), type := 4, pos := "law.go:132", after := #[], guard := none }) (v := ?_) rfl (by kernel_rfl) (by kernel_rfl) (by kernel_rfl) (fun _ _ _ h => h) (Or.inl ⟨rfl, ?_⟩) hHeld ?_
          rotate_left
          · (intro wz hSw; (try dsimp only at hSw); go_simp; try with_reducible rfl)
          try simp only [Act.put, List.setIfInBounds_toArray, List.set_cons_zero, List.set_cons_succ]
          refine wpAnyH_take (i := 1) (oi := { dst := some 68, op := Op.move (Operand.tmp 67), type := 4, pos := "law.go:132", after := #[eD 0], guard := none }) (v := ?_) rfl (by kernel_rfl) (by kernel_rfl) (by kernel_rfl) (fun _ _ _ h => h) (Or.inl ⟨rfl, ?_⟩) hHeld ?_
          rotate_left
          · (intro wz hSw; (try dsimp only at hSw); go_simp; try with_reducible rfl)
          try simp only [Act.put, List.setIfInBounds_toArray, List.set_cons_zero, List.set_cons_succ]
          refine wpAnyH_take (i := 2) (oi := { dst := some 69, op := Op.move (Operand.tmp 16), type := 4, pos := "law.go:132", after := #[eG 1], guard := some (1, false) }) (v := ?_) rfl (by kernel_rfl) (by kernel_rfl) (by kernel_rfl) (fun _ _ _ h => h) (Or.inl ⟨rfl, ?_⟩) hHeld ?_
          rotate_left
          · (intro wz hSw; (try dsimp only at hSw); go_simp; try with_reducible rfl)
          try simp only [Act.put, List.setIfInBounds_toArray, List.set_cons_zero, List.set_cons_succ]
          refine wpAnyH_take (i := 3) (oi := { dst := some 70, op := Op.pick (Operand.tmp 68) (Operand.const (Value.bool true)) (Operand.tmp 69), type := 4, pos := "law.go:132", after := #[eD 1, eD 2], guard := none }) (v := ?_) rfl (by kernel_rfl) (by kernel_rfl) (by kernel_rfl) (fun _ _ _ h => h) (Or.inl ⟨rfl, ?_⟩) hHeld ?_
          rotate_left
          · (intro wz hSw; (try dsimp only at hSw); go_simp; try with_reducible rfl)
          try simp only [Act.put, List.setIfInBounds_toArray, List.set_cons_zero, List.set_cons_succ]
          refine wpAnyH_take (i := 4) (oi := { dst := some 71, op := Op.move (Operand.tmp 70), type := 4, pos := "law.go:132", after := #[eD 3, eC 1], guard := none }) (v := ?_) rfl (by kernel_rfl) (by kernel_rfl) (by kernel_rfl) (fun _ _ _ h => h) (Or.inl ⟨rfl, ?_⟩) hHeld ?_
          rotate_left
          · (intro wz hSw; (try dsimp only at hSw); go_simp; try with_reducible rfl)
          try simp only [Act.put, List.setIfInBounds_toArray, List.set_cons_zero, List.set_cons_succ]
          refine wpAnyH_take (i := 5) (oi := { dst := some 72, op := Op.move (Operand.tmp 6), type := 30, pos := "law.go:132", after := #[eG 4], guard := some (4, true) }) (v := ?_) rfl (by kernel_rfl) (by kernel_rfl) (by kernel_rfl) (fun _ _ _ h => h) (Or.inl ⟨rfl, ?_⟩) hHeld ?_
          rotate_left
          · (intro wz hSw; (try dsimp only at hSw); go_simp; try with_reducible rfl)
          try simp only [Act.put, List.setIfInBounds_toArray, List.set_cons_zero, List.set_cons_succ]
          refine wpAnyH_take (i := 7) (oi := { dst := some 74, op := Op.load 26 (Operand.tmp 9), type := 26, pos := "law.go:132", after := #[eG 4], guard := some (4, true) }) (v := ?_) rfl (by kernel_rfl) (by kernel_rfl) (by kernel_rfl) (fun _ _ _ h => h) (Or.inl ⟨rfl, ?_⟩) hHeld ?_
          rotate_left
          · (intro wz hSw; refine exec_load_has 26 (Operand.tmp 9) ?_ _ ?_ hSw.regs Tryz.underlying26 rfl (A.info25 _) <;> rfl)
          try simp only [Act.put, List.setIfInBounds_toArray, List.set_cons_zero, List.set_cons_succ]
          refine wpAnyH_ready (rs := [6]) (by kernel_rfl) (by simp) ?_
          refine AllReadyH.cons (o := { dst := some 73, op := Op.call { callee := Callee.value (Operand.func 16), args := #[Operand.tmp 72], argTypes := #[30] }, type := 26, pos := "law.go:132", after := #[eD 5, eC 4, eG 4], guard := some (4, true) }) rfl (fun K hK => ?_) (AllReadyH.nil)
          go_simp
          go_at_call 16
          refine (regs_any hHeld.mac).mono ?_
          rintro e wa ⟨rfl, hKa⟩
          have hN := (show (fun wz => X.Sv w F' B (X.step x) g9 x.s gw x.ws ao co x.outs wz) _ from hHeld.turn0 (hKa.turn T0))
          clear hHeld
          refine hK.out _ _ hN (fun hHeld => ?_)
          clear hK K hN
          try simp only [Act.put, List.setIfInBounds_toArray, List.set_cons_zero, List.set_cons_succ]
          refine wpAnyH_take (i := 8) (oi := { dst := some 75, op := Op.binOp BinOp.neq 26 (Operand.tmp 73) (Operand.tmp 74) 26, type := 4, pos := "law.go:132", after := #[eD 6, eD 7, eG 4], guard := some (4, true) }) (v := ?_) rfl (by kernel_rfl) (by kernel_rfl) (by kernel_rfl) (fun _ _ _ h => h) (Or.inl ⟨rfl, ?_⟩) hHeld ?_
          rotate_left
          · (intro wz hSw; refine exec_neq_regs (o := { dst := some 75, op := Op.binOp BinOp.neq 26 (Operand.tmp 73) (Operand.tmp 74) 26, type := 4, pos := "law.go:132", after := #[eD 6, eD 7, eG 4], guard := some (4, true) }) (Operand.tmp 73) (Operand.tmp 74) ?_ x.s ?_ ?_ <;> first | rfl | (rw [← e2]; rfl))
          try simp only [Act.put, List.setIfInBounds_toArray, List.set_cons_zero, List.set_cons_succ]
          refine wpAnyH_take (i := 9) (oi := { dst := some 76, op := Op.move (Operand.tmp 75), type := 4, pos := "law.go:132", after := #[eD 8, eC 6, eG 4], guard := some (4, true) }) (v := ?_) rfl (by kernel_rfl) (by kernel_rfl) (by kernel_rfl) (fun _ _ _ h => h) (Or.inl ⟨rfl, ?_⟩) hHeld ?_
          rotate_left
          · (intro wz hSw; (try dsimp only at hSw); go_simp; try with_reducible rfl)
          try simp only [Act.put, List.setIfInBounds_toArray, List.set_cons_zero, List.set_cons_succ]
          refine wpAnyH_take (i := 10) (oi := { dst := some 77, op := Op.move (Operand.tmp 6), type := 30, pos := "law.go:132", after := #[eG 9], guard := some (9, false) }) (v := ?_) rfl (by kernel_rfl) (by kernel_rfl) (by kernel_rfl) (fun _ _ _ h => h) (Or.inl ⟨rfl, ?_⟩) hHeld ?_
          rotate_left
          · (intro wz hSw; (try dsimp only at hSw); go_simp; try with_reducible rfl)
          try simp only [Act.put, List.setIfInBounds_toArray, List.set_cons_zero, List.set_cons_succ]
          refine wpAnyH_take (i := 12) (oi := { dst := some 79, op := Op.move (Operand.tmp 10), type := 23, pos := "law.go:132", after := #[eG 9], guard := some (9, false) }) (v := ?_) rfl (by kernel_rfl) (by kernel_rfl) (by kernel_rfl) (fun _ _ _ h => h) (Or.inl ⟨rfl, ?_⟩) hHeld ?_
          rotate_left
          · (intro wz hSw; (try dsimp only at hSw); go_simp; try with_reducible rfl)
          try simp only [Act.put, List.setIfInBounds_toArray, List.set_cons_zero, List.set_cons_succ]
          refine wpAnyH_ready (rs := [11]) (by kernel_rfl) (by simp) ?_
          refine AllReadyH.cons (o := { dst := some 78, op := Op.call { callee := Callee.value (Operand.func 15), args := #[Operand.tmp 77], argTypes := #[30] }, type := 23, pos := "law.go:132", after := #[eD 10, eC 9, eG 9], guard := some (9, false) }) rfl (fun K hK => ?_) (AllReadyH.nil)
          go_simp
          go_at_call 15
          refine (pc_any hHeld.mac).mono ?_
          rintro e wb ⟨rfl, rfl⟩
          have hN := (show (fun wz => X.Sv w F' B (X.step x) g9 x.s gw x.ws ao co x.outs wz) _ from hHeld)
          clear hHeld
          refine hK.out _ _ hN (fun hHeld => ?_)
          clear hK K hN
          try simp only [Act.put, List.setIfInBounds_toArray, List.set_cons_zero, List.set_cons_succ]
          refine wpAnyH_take (i := 13) (oi := { dst := some 80, op := Op.binOp BinOp.neq 23 (Operand.tmp 78) (Operand.tmp 79) 23, type := 4, pos := "law.go:132", after := #[eD 11, eD 12, eG 9], guard := some (9, false) }) (v := ?_) rfl (by kernel_rfl) (by kernel_rfl) (by kernel_rfl) (fun _ _ _ h => h) (Or.inl ⟨rfl, ?_⟩) hHeld ?_
          rotate_left
          · (intro wz hSw; (try dsimp only at hSw); go_simp; try with_reducible rfl)
          try simp only [Act.put, List.setIfInBounds_toArray, List.set_cons_zero, List.set_cons_succ]
          refine wpAnyH_take (i := 14) (oi := { dst := some 81, op := Op.pick (Operand.tmp 76) (Operand.const (Value.bool true)) (Operand.tmp 80), type := 4, pos := "law.go:132", after := #[eD 9, eD 13, eG 4], guard := some (4, true) }) (v := ?_) rfl (by kernel_rfl) (by kernel_rfl) (by kernel_rfl) (fun _ _ _ h => h) (Or.inl ⟨rfl, ?_⟩) hHeld ?_
          rotate_left
          · (intro wz hSw; (try dsimp only at hSw); go_simp; try with_reducible rfl)
          try simp only [Act.put, List.setIfInBounds_toArray, List.set_cons_zero, List.set_cons_succ]
          refine wpAnyH_take (i := 15) (oi := { dst := some 82, op := Op.move (Operand.tmp 81), type := 4, pos := "law.go:132", after := #[eD 14, eC 11, eG 4], guard := some (4, true) }) (v := ?_) rfl (by kernel_rfl) (by kernel_rfl) (by kernel_rfl) (fun _ _ _ h => h) (Or.inl ⟨rfl, ?_⟩) hHeld ?_
          rotate_left
          · (intro wz hSw; (try dsimp only at hSw); go_simp; try with_reducible rfl)
          try simp only [Act.put, List.setIfInBounds_toArray, List.set_cons_zero, List.set_cons_succ]
          refine wpAnyH_take (i := 16) (oi := { dst := some 83, op := Op.move (Operand.tmp 6), type := 30, pos := "law.go:132", after := #[eG 15], guard := some (15, false) }) (v := ?_) rfl (by kernel_rfl) (by kernel_rfl) (by kernel_rfl) (fun _ _ _ h => h) (Or.inl ⟨rfl, ?_⟩) hHeld ?_
          rotate_left
          · (intro wz hSw; (try dsimp only at hSw); go_simp; try with_reducible rfl)
          try simp only [Act.put, List.setIfInBounds_toArray, List.set_cons_zero, List.set_cons_succ]
          refine wpAnyH_take (i := 18) (oi := { dst := some 85, op := Op.move (Operand.tmp 11), type := 22, pos := "law.go:132", after := #[eG 15], guard := some (15, false) }) (v := ?_) rfl (by kernel_rfl) (by kernel_rfl) (by kernel_rfl) (fun _ _ _ h => h) (Or.inl ⟨rfl, ?_⟩) hHeld ?_
          rotate_left
          · (intro wz hSw; (try dsimp only at hSw); go_simp; try with_reducible rfl)
          try simp only [Act.put, List.setIfInBounds_toArray, List.set_cons_zero, List.set_cons_succ]
          refine wpAnyH_ready (rs := [17]) (by kernel_rfl) (by simp) ?_
          refine AllReadyH.cons (o := { dst := some 84, op := Op.call { callee := Callee.value (Operand.func 19), args := #[Operand.tmp 83], argTypes := #[30] }, type := 22, pos := "law.go:132", after := #[eD 16, eC 15, eG 15], guard := some (15, false) }) rfl (fun K hK => ?_) (AllReadyH.nil)
          go_simp
          go_at_call 19
          refine (words_any hHeld.mac).mono ?_
          rintro e wc ⟨gx, rfl, px1, px2, px3⟩
          have hN := (show (fun wz => X.Sv w F' B (X.step x) g9 x.s gw x.ws ao co x.outs wz) _ from hHeld.turn0 (px3.turn T0))
          clear hHeld
          refine hK.out _ _ hN (fun hHeld => ?_)
          clear hK K hN
          try simp only [Act.put, List.setIfInBounds_toArray, List.set_cons_zero, List.set_cons_succ]
          refine wpAnyH_ready (rs := [19]) (by kernel_rfl) (by simp) ?_
          refine AllReadyH.cons (o := { dst := some 86, op := Op.call { callee := Callee.value (Operand.func 17), args := #[Operand.tmp 84, Operand.tmp 85], argTypes := #[22, 22] }, type := 4, pos := "law.go:132", after := #[eD 17, eD 18, eC 17, eG 15], guard := some (15, false) }) rfl (fun K hK => ?_) (AllReadyH.nil)
          rw [e1] at px2
          go_simp
          go_at_call 17
          refine (same_any px2 hHeld.words).mono ?_
          rintro e wf ⟨rfl, hKs⟩
          have hN := (show (fun wz => X.Sv w F' B (X.step x) g9 x.s gw x.ws ao co x.outs wz) _ from hHeld.turn0 (hKs.turn T0))
          clear hHeld
          refine hK.out _ _ hN (fun hHeld => ?_)
          clear hK K hN
          try simp only [Act.put, List.setIfInBounds_toArray, List.set_cons_zero, List.set_cons_succ]
          refine wpAnyH_take (i := 20) (oi := { dst := some 87, op := Op.unOp UnOp.not 4 (Operand.tmp 86), type := 4, pos := "law.go:132", after := #[eD 19, eG 15], guard := some (15, false) }) (v := ?_) rfl (by kernel_rfl) (by kernel_rfl) (by kernel_rfl) (fun _ _ _ h => h) (Or.inl ⟨rfl, ?_⟩) hHeld ?_
          rotate_left
          · (intro wz hSw; (try dsimp only at hSw); go_simp; try with_reducible rfl)
          try simp only [Act.put, List.setIfInBounds_toArray, List.set_cons_zero, List.set_cons_succ]
          refine wpAnyH_take (i := 21) (oi := { dst := some 88, op := Op.pick (Operand.tmp 82) (Operand.const (Value.bool true)) (Operand.tmp 87), type := 4, pos := "law.go:132", after := #[eD 15, eD 20, eG 4], guard := some (4, true) }) (v := ?_) rfl (by kernel_rfl) (by kernel_rfl) (by kernel_rfl) (fun _ _ _ h => h) (Or.inl ⟨rfl, ?_⟩) hHeld ?_
          rotate_left
          · (intro wz hSw; (try dsimp only at hSw); go_simp; try with_reducible rfl)
          try simp only [Act.put, List.setIfInBounds_toArray, List.set_cons_zero, List.set_cons_succ]
          refine wpAnyH_take (i := 22) (oi := { dst := some 89, op := Op.move (Operand.tmp 88), type := 4, pos := "law.go:132", after := #[eD 21, eC 19, eG 4], guard := some (4, true) }) (v := ?_) rfl (by kernel_rfl) (by kernel_rfl) (by kernel_rfl) (fun _ _ _ h => h) (Or.inl ⟨rfl, ?_⟩) hHeld ?_
          rotate_left
          · (intro wz hSw; (try dsimp only at hSw); go_simp; try with_reducible rfl)
          try simp only [Act.put, List.setIfInBounds_toArray, List.set_cons_zero, List.set_cons_succ]
          refine wpAnyH_take (i := 23) (oi := { dst := some 90, op := Op.move (Operand.tmp 6), type := 30, pos := "law.go:132", after := #[eG 22], guard := some (22, false) }) (v := ?_) rfl (by kernel_rfl) (by kernel_rfl) (by kernel_rfl) (fun _ _ _ h => h) (Or.inl ⟨rfl, ?_⟩) hHeld ?_
          rotate_left
          · (intro wz hSw; (try dsimp only at hSw); go_simp; try with_reducible rfl)
          try simp only [Act.put, List.setIfInBounds_toArray, List.set_cons_zero, List.set_cons_succ]
          refine wpAnyH_take (i := 25) (oi := { dst := some 92, op := Op.move (Operand.tmp 12), type := 22, pos := "law.go:132", after := #[eG 22], guard := some (22, false) }) (v := ?_) rfl (by kernel_rfl) (by kernel_rfl) (by kernel_rfl) (fun _ _ _ h => h) (Or.inl ⟨rfl, ?_⟩) hHeld ?_
          rotate_left
          · (intro wz hSw; (try dsimp only at hSw); go_simp; try with_reducible rfl)
          try simp only [Act.put, List.setIfInBounds_toArray, List.set_cons_zero, List.set_cons_succ]
          refine wpAnyH_ready (rs := [24]) (by kernel_rfl) (by simp) ?_
          refine AllReadyH.cons (o := { dst := some 91, op := Op.call { callee := Callee.value (Operand.func 18), args := #[Operand.tmp 90], argTypes := #[30] }, type := 22, pos := "law.go:132", after := #[eD 23, eC 22, eG 22], guard := some (22, false) }) rfl (fun K hK => ?_) (AllReadyH.nil)
          go_simp
          go_at_call 18
          refine (outs_any hHeld.mac (by rw [e4]; omega)).mono ?_
          rintro e wh ⟨ay, cy, rfl, py1, py2, py3⟩
          have hN := (show (fun wz => X.Sv w F' B (X.step x) g9 x.s gw x.ws ao co x.outs wz) _ from hHeld.turn0 py2)
          clear hHeld
          refine hK.out _ _ hN (fun hHeld => ?_)
          clear hK K hN
          try simp only [Act.put, List.setIfInBounds_toArray, List.set_cons_zero, List.set_cons_succ]
          refine wpAnyH_ready (rs := [26]) (by kernel_rfl) (by simp) ?_
          refine AllReadyH.cons (o := { dst := some 93, op := Op.call { callee := Callee.value (Operand.func 17), args := #[Operand.tmp 91, Operand.tmp 92], argTypes := #[22, 22] }, type := 4, pos := "law.go:132", after := #[eD 24, eD 25, eC 24, eG 22], guard := some (22, false) }) rfl (fun K hK => ?_) (AllReadyH.nil)
          rw [e4] at py1
          go_simp
          go_at_call 17
          refine (same_any py1 hHeld.outs).mono ?_
          rintro e wj ⟨rfl, hKt⟩
          have hN := (show (fun wz => X.Sv w F' B (X.step x) g9 x.s gw x.ws ao co x.outs wz) _ from hHeld.turn0 (hKt.turn T0))
          clear hHeld
          refine hK.out _ _ hN (fun hHeld => ?_)
          clear hK K hN
          try simp only [Act.put, List.setIfInBounds_toArray, List.set_cons_zero, List.set_cons_succ]
          refine wpAnyH_take (i := 27) (oi := { dst := some 94, op := Op.unOp UnOp.not 4 (Operand.tmp 93), type := 4, pos := "law.go:132", after := #[eD 26, eG 22], guard := some (22, false) }) (v := ?_) rfl (by kernel_rfl) (by kernel_rfl) (by kernel_rfl) (fun _ _ _ h => h) (Or.inl ⟨rfl, ?_⟩) hHeld ?_
          rotate_left
          · (intro wz hSw; (try dsimp only at hSw); go_simp; try with_reducible rfl)
          try simp only [Act.put, List.setIfInBounds_toArray, List.set_cons_zero, List.set_cons_succ]
          refine wpAnyH_take (i := 28) (oi := { dst := some 95, op := Op.pick (Operand.tmp 89) (Operand.const (Value.bool true)) (Operand.tmp 94), type := 4, pos := "law.go:132", after := #[eD 22, eD 27, eG 4], guard := some (4, true) }) (v := ?_) rfl (by kernel_rfl) (by kernel_rfl) (by kernel_rfl) (fun _ _ _ h => h) (Or.inl ⟨rfl, ?_⟩) hHeld ?_
          rotate_left
          · (intro wz hSw; (try dsimp only at hSw); go_simp; try with_reducible rfl)
          try simp only [Act.put, List.setIfInBounds_toArray, List.set_cons_zero, List.set_cons_succ]
          refine wpAnyH_take (i := 29) (oi := { dst := some 96, op := Op.pick (Operand.tmp 71) (Operand.tmp 95) (Operand.const (Value.bool false)), type := 4, pos := "law.go:132", after := #[eD 4, eD 28], guard := none }) (v := ?_) rfl (by kernel_rfl) (by kernel_rfl) (by kernel_rfl) (fun _ _ _ h => h) (Or.inl ⟨rfl, ?_⟩) hHeld ?_
          rotate_left
          · (intro wz hSw; (try dsimp only at hSw); go_simp; try with_reducible rfl)
          try simp only [Act.put, List.setIfInBounds_toArray, List.set_cons_zero, List.set_cons_succ]
          refine wpAnyH_done (by kernel_rfl) ?_ _
          have hMn := hHeld.mac
          have hFn := hHeld.fF
          have hbn := hHeld.b
          rw [← hgs] at hMn
          clear hHeld
          go_wp2
          go_roundw
          case rel => exact ⟨k + 1, F', by omega, by go_num, hMn, fun j hj => by rw [← hg]; exact hFn j hj, by rw [← hg]; exact hbn⟩
          case measure => simp [intOf]; omega
        · have c2' : decide ((X.step x).st > 1) = false := decide_eq_false c2
          clear hss
          go_upto_region 19 with (fail)
          refine wp_region_held_drew (S := fun wz => X.Sv w F' B (X.step x) g9 x.s gw x.ws ao co x.outs wz) (by kernel_rfl) ?_ (fun hHeld => ?_)
          · exact hSv.out.turn0 ((Kept.refl _).drew.turn T0)
          refine wpAnyH_take (i := 0) (oi := { dst := some 67, op := Op.move (Operand.tmp 15), type := 4, pos := "law.go:132", after := #[], guard := none }) (v := ?_) rfl (by kernel_rfl) (by kernel_rfl) (by kernel_rfl) (fun _ _ _ h => h) (Or.inl ⟨rfl, ?_⟩) hHeld ?_
          rotate_left
          · (intro wz hSw; (try dsimp only at hSw); go_simp; try with_reducible rfl)
          try simp only [Act.put, List.setIfInBounds_toArray, List.set_cons_zero, List.set_cons_succ]
          refine wpAnyH_take (i := 1) (oi := { dst := some 68, op := Op.move (Operand.tmp 67), type := 4, pos := "law.go:132", after := #[eD 0], guard := none }) (v := ?_) rfl (by kernel_rfl) (by kernel_rfl) (by kernel_rfl) (fun _ _ _ h => h) (Or.inl ⟨rfl, ?_⟩) hHeld ?_
          rotate_left
          · (intro wz hSw; (try dsimp only at hSw); go_simp; try with_reducible rfl)
          try simp only [Act.put, List.setIfInBounds_toArray, List.set_cons_zero, List.set_cons_succ]
          refine wpAnyH_take (i := 2) (oi := { dst := some 69, op := Op.move (Operand.tmp 16), type := 4, pos := "law.go:132", after := #[eG 1], guard := some (1, false) }) (v := ?_) rfl (by kernel_rfl) (by kernel_rfl) (by kernel_rfl) (fun _ _ _ h => h) (Or.inl ⟨rfl, ?_⟩) hHeld ?_
          rotate_left
          · (intro wz hSw; (try dsimp only at hSw); go_simp; try with_reducible rfl)
          try simp only [Act.put, List.setIfInBounds_toArray, List.set_cons_zero, List.set_cons_succ]
          refine wpAnyH_take (i := 3) (oi := { dst := some 70, op := Op.pick (Operand.tmp 68) (Operand.const (Value.bool true)) (Operand.tmp 69), type := 4, pos := "law.go:132", after := #[eD 1, eD 2], guard := none }) (v := ?_) rfl (by kernel_rfl) (by kernel_rfl) (by kernel_rfl) (fun _ _ _ h => h) (Or.inl ⟨rfl, ?_⟩) hHeld ?_
          rotate_left
          · (intro wz hSw; (try dsimp only at hSw); go_simp; try with_reducible rfl)
          try simp only [Act.put, List.setIfInBounds_toArray, List.set_cons_zero, List.set_cons_succ]
          refine wpAnyH_take (i := 4) (oi := { dst := some 71, op := Op.move (Operand.tmp 70), type := 4, pos := "law.go:132", after := #[eD 3, eC 1], guard := none }) (v := ?_) rfl (by kernel_rfl) (by kernel_rfl) (by kernel_rfl) (fun _ _ _ h => h) (Or.inl ⟨rfl, ?_⟩) hHeld ?_
          rotate_left
          · (intro wz hSw; (try dsimp only at hSw); go_simp; try with_reducible rfl)
          try simp only [Act.put, List.setIfInBounds_toArray, List.set_cons_zero, List.set_cons_succ]
          refine wpAnyH_take (i := 5) (oi := { dst := some 72, op := Op.move (Operand.tmp 6), type := 30, pos := "law.go:132", after := #[eG 4], guard := some (4, true) }) (v := undef) rfl (by kernel_rfl) (by kernel_rfl) (by kernel_rfl) (fun _ _ _ h => h) (Or.inr ⟨rfl, rfl⟩) hHeld ?_
          try simp only [Act.put, List.setIfInBounds_toArray, List.set_cons_zero, List.set_cons_succ]
          refine wpAnyH_take (i := 6) (oi := { dst := some 73, op := Op.call { callee := Callee.value (Operand.func 16), args := #[Operand.tmp 72], argTypes := #[30] }, type := 26, pos := "law.go:132", after := #[eD 5, eC 4, eG 4], guard := some (4, true) }) (v := undef) rfl (by kernel_rfl) (by kernel_rfl) (by kernel_rfl) (fun _ _ _ h => h) (Or.inr ⟨rfl, rfl⟩) hHeld ?_
          try simp only [Act.put, List.setIfInBounds_toArray, List.set_cons_zero, List.set_cons_succ]
          refine wpAnyH_take (i := 7) (oi := { dst := some 74, op := Op.load 26 (Operand.tmp 9), type := 26, pos := "law.go:132", after := #[eG 4], guard := some (4, true) }) (v := undef) rfl (by kernel_rfl) (by kernel_rfl) (by kernel_rfl) (fun _ _ _ h => h) (Or.inr ⟨rfl, rfl⟩) hHeld ?_
          try simp only [Act.put, List.setIfInBounds_toArray, List.set_cons_zero, List.set_cons_succ]
          refine wpAnyH_take (i := 8) (oi := { dst := some 75, op := Op.binOp BinOp.neq 26 (Operand.tmp 73) (Operand.tmp 74) 26, type := 4, pos := "law.go:132", after := #[eD 6, eD 7, eG 4], guard := some (4, true) }) (v := undef) rfl (by kernel_rfl) (by kernel_rfl) (by kernel_rfl) (fun _ _ _ h => h) (Or.inr ⟨rfl, rfl⟩) hHeld ?_
          try simp only [Act.put, List.setIfInBounds_toArray, List.set_cons_zero, List.set_cons_succ]
          refine wpAnyH_take (i := 9) (oi := { dst := some 76, op := Op.move (Operand.tmp 75), type := 4, pos := "law.go:132", after := #[eD 8, eC 6, eG 4], guard := some (4, true) }) (v := undef) rfl (by kernel_rfl) (by kernel_rfl) (by kernel_rfl) (fun _ _ _ h => h) (Or.inr ⟨rfl, rfl⟩) hHeld ?_
          try simp only [Act.put, List.setIfInBounds_toArray, List.set_cons_zero, List.set_cons_succ]
          refine wpAnyH_take (i := 10) (oi := { dst := some 77, op := Op.move (Operand.tmp 6), type := 30, pos := "law.go:132", after := #[eG 9], guard := some (9, false) }) (v := undef) rfl (by kernel_rfl) (by kernel_rfl) (by kernel_rfl) (fun _ _ _ h => h) (Or.inr ⟨rfl, rfl⟩) hHeld ?_
          try simp only [Act.put, List.setIfInBounds_toArray, List.set_cons_zero, List.set_cons_succ]
          refine wpAnyH_take (i := 11) (oi := { dst := some 78, op := Op.call { callee := Callee.value (Operand.func 15), args := #[Operand.tmp 77], argTypes := #[30] }, type := 23, pos := "law.go:132", after := #[eD 10, eC 9, eG 9], guard := some (9, false) }) (v := undef) rfl (by kernel_rfl) (by kernel_rfl) (by kernel_rfl) (fun _ _ _ h => h) (Or.inr ⟨rfl, rfl⟩) hHeld ?_
          try simp only [Act.put, List.setIfInBounds_toArray, List.set_cons_zero, List.set_cons_succ]
          refine wpAnyH_take (i := 12) (oi := { dst := some 79, op := Op.move (Operand.tmp 10), type := 23, pos := "law.go:132", after := #[eG 9], guard := some (9, false) }) (v := undef) rfl (by kernel_rfl) (by kernel_rfl) (by kernel_rfl) (fun _ _ _ h => h) (Or.inr ⟨rfl, rfl⟩) hHeld ?_
          try simp only [Act.put, List.setIfInBounds_toArray, List.set_cons_zero, List.set_cons_succ]
          refine wpAnyH_take (i := 13) (oi := { dst := some 80, op := Op.binOp BinOp.neq 23 (Operand.tmp 78) (Operand.tmp 79) 23, type := 4, pos := "law.go:132", after := #[eD 11, eD 12, eG 9], guard := some (9, false) }) (v := undef) rfl (by kernel_rfl) (by kernel_rfl) (by kernel_rfl) (fun _ _ _ h => h) (Or.inr ⟨rfl, rfl⟩) hHeld ?_
          try simp only [Act.put, List.setIfInBounds_toArray, List.set_cons_zero, List.set_cons_succ]
          refine wpAnyH_take (i := 14) (oi := { dst := some 81, op := Op.pick (Operand.tmp 76) (Operand.const (Value.bool true)) (Operand.tmp 80), type := 4, pos := "law.go:132", after := #[eD 9, eD 13, eG 4], guard := some (4, true) }) (v := undef) rfl (by kernel_rfl) (by kernel_rfl) (by kernel_rfl) (fun _ _ _ h => h) (Or.inr ⟨rfl, rfl⟩) hHeld ?_
          try simp only [Act.put, List.setIfInBounds_toArray, List.set_cons_zero, List.set_cons_succ]
          refine wpAnyH_take (i := 15) (oi := { dst := some 82, op := Op.move (Operand.tmp 81), type := 4, pos := "law.go:132", after := #[eD 14, eC 11, eG 4], guard := some (4, true) }) (v := undef) rfl (by kernel_rfl) (by kernel_rfl) (by kernel_rfl) (fun _ _ _ h => h) (Or.inr ⟨rfl, rfl⟩) hHeld ?_
          try simp only [Act.put, List.setIfInBounds_toArray, List.set_cons_zero, List.set_cons_succ]
          refine wpAnyH_take (i := 16) (oi := { dst := some 83, op := Op.move (Operand.tmp 6), type := 30, pos := "law.go:132", after := #[eG 15], guard := some (15, false) }) (v := undef) rfl (by kernel_rfl) (by kernel_rfl) (by kernel_rfl) (fun _ _ _ h => h) (Or.inr ⟨rfl, rfl⟩) hHeld ?_
          try simp only [Act.put, List.setIfInBounds_toArray, List.set_cons_zero, List.set_cons_succ]
          refine wpAnyH_take (i := 17) (oi := { dst := some 84, op := Op.call { callee := Callee.value (Operand.func 19), args := #[Operand.tmp 83], argTypes := #[30] }, type := 22, pos := "law.go:132", after := #[eD 16, eC 15, eG 15], guard := some (15, false) }) (v := undef) rfl (by kernel_rfl) (by kernel_rfl) (by kernel_rfl) (fun _ _ _ h => h) (Or.inr ⟨rfl, rfl⟩) hHeld ?_
          try simp only [Act.put, List.setIfInBounds_toArray, List.set_cons_zero, List.set_cons_succ]
          refine wpAnyH_take (i := 18) (oi := { dst := some 85, op := Op.move (Operand.tmp 11), type := 22, pos := "law.go:132", after := #[eG 15], guard := some (15, false) }) (v := undef) rfl (by kernel_rfl) (by kernel_rfl) (by kernel_rfl) (fun _ _ _ h => h) (Or.inr ⟨rfl, rfl⟩) hHeld ?_
          try simp only [Act.put, List.setIfInBounds_toArray, List.set_cons_zero, List.set_cons_succ]
          refine wpAnyH_take (i := 19) (oi := { dst := some 86, op := Op.call { callee := Callee.value (Operand.func 17), args := #[Operand.tmp 84, Operand.tmp 85], argTypes := #[22, 22] }, type := 4, pos := "law.go:132", after := #[eD 17, eD 18, eC 17, eG 15], guard := some (15, false) }) (v := undef) rfl (by kernel_rfl) (by kernel_rfl) (by kernel_rfl) (fun _ _ _ h => h) (Or.inr ⟨rfl, rfl⟩) hHeld ?_
          try simp only [Act.put, List.setIfInBounds_toArray, List.set_cons_zero, List.set_cons_succ]
          refine wpAnyH_take (i := 20) (oi := { dst := some 87, op := Op.unOp UnOp.not 4 (Operand.tmp 86), type := 4, pos := "law.go:132", after := #[eD 19, eG 15], guard := some (15, false) }) (v := undef) rfl (by kernel_rfl) (by kernel_rfl) (by kernel_rfl) (fun _ _ _ h => h) (Or.inr ⟨rfl, rfl⟩) hHeld ?_
          try simp only [Act.put, List.setIfInBounds_toArray, List.set_cons_zero, List.set_cons_succ]
          refine wpAnyH_take (i := 21) (oi := { dst := some 88, op := Op.pick (Operand.tmp 82) (Operand.const (Value.bool true)) (Operand.tmp 87), type := 4, pos := "law.go:132", after := #[eD 15, eD 20, eG 4], guard := some (4, true) }) (v := undef) rfl (by kernel_rfl) (by kernel_rfl) (by kernel_rfl) (fun _ _ _ h => h) (Or.inr ⟨rfl, rfl⟩) hHeld ?_
          try simp only [Act.put, List.setIfInBounds_toArray, List.set_cons_zero, List.set_cons_succ]
          refine wpAnyH_take (i := 22) (oi := { dst := some 89, op := Op.move (Operand.tmp 88), type := 4, pos := "law.go:132", after := #[eD 21, eC 19, eG 4], guard := some (4, true) }) (v := undef) rfl (by kernel_rfl) (by kernel_rfl) (by kernel_rfl) (fun _ _ _ h => h) (Or.inr ⟨rfl, rfl⟩) hHeld ?_
          try simp only [Act.put, List.setIfInBounds_toArray, List.set_cons_zero, List.set_cons_succ]
          refine wpAnyH_take (i := 23) (oi := { dst := some 90, op := Op.move (Operand.tmp 6), type := 30, pos := "law.go:132", after := #[eG 22], guard := some (22, false) }) (v := undef) rfl (by kernel_rfl) (by kernel_rfl) (by kernel_rfl) (fun _ _ _ h => h) (Or.inr ⟨rfl, rfl⟩) hHeld ?_
          try simp only [Act.put, List.setIfInBounds_toArray, List.set_cons_zero, List.set_cons_succ]
          refine wpAnyH_take (i := 24) (oi := { dst := some 91, op := Op.call { callee := Callee.value (Operand.func 18), args := #[Operand.tmp 90], argTypes := #[30] }, type := 22, pos := "law.go:132", after := #[eD 23, eC 22, eG 22], guard := some (22, false) }) (v := undef) rfl (by kernel_rfl) (by kernel_rfl) (by kernel_rfl) (fun _ _ _ h => h) (Or.inr ⟨rfl, rfl⟩) hHeld ?_
          try simp only [Act.put, List.setIfInBounds_toArray, List.set_cons_zero, List.set_cons_succ]
          refine wpAnyH_take (i := 25) (oi := { dst := some 92, op := Op.move (Operand.tmp 12), type := 22, pos := "law.go:132", after := #[eG 22], guard := some (22, false) }) (v := undef) rfl (by kernel_rfl) (by kernel_rfl) (by kernel_rfl) (fun _ _ _ h => h) (Or.inr ⟨rfl, rfl⟩) hHeld ?_
          try simp only [Act.put, List.setIfInBounds_toArray, List.set_cons_zero, List.set_cons_succ]
          refine wpAnyH_take (i := 26) (oi := { dst := some 93, op := Op.call { callee := Callee.value (Operand.func 17), args := #[Operand.tmp 91, Operand.tmp 92], argTypes := #[22, 22] }, type := 4, pos := "law.go:132", after := #[eD 24, eD 25, eC 24, eG 22], guard := some (22, false) }) (v := undef) rfl (by kernel_rfl) (by kernel_rfl) (by kernel_rfl) (fun _ _ _ h => h) (Or.inr ⟨rfl, rfl⟩) hHeld ?_
          try simp only [Act.put, List.setIfInBounds_toArray, List.set_cons_zero, List.set_cons_succ]
          refine wpAnyH_take (i := 27) (oi := { dst := some 94, op := Op.unOp UnOp.not 4 (Operand.tmp 93), type := 4, pos := "law.go:132", after := #[eD 26, eG 22], guard := some (22, false) }) (v := undef) rfl (by kernel_rfl) (by kernel_rfl) (by kernel_rfl) (fun _ _ _ h => h) (Or.inr ⟨rfl, rfl⟩) hHeld ?_
          try simp only [Act.put, List.setIfInBounds_toArray, List.set_cons_zero, List.set_cons_succ]
          refine wpAnyH_take (i := 28) (oi := { dst := some 95, op := Op.pick (Operand.tmp 89) (Operand.const (Value.bool true)) (Operand.tmp 94), type := 4, pos := "law.go:132", after := #[eD 22, eD 27, eG 4], guard := some (4, true) }) (v := undef) rfl (by kernel_rfl) (by kernel_rfl) (by kernel_rfl) (fun _ _ _ h => h) (Or.inr ⟨rfl, rfl⟩) hHeld ?_
          try simp only [Act.put, List.setIfInBounds_toArray, List.set_cons_zero, List.set_cons_succ]
          refine wpAnyH_take (i := 29) (oi := { dst := some 96, op := Op.pick (Operand.tmp 71) (Operand.tmp 95) (Operand.const (Value.bool false)), type := 4, pos := "law.go:132", after := #[eD 4, eD 28], guard := none }) (v := ?_) rfl (by kernel_rfl) (by kernel_rfl) (by kernel_rfl) (fun _ _ _ h => h) (Or.inl ⟨rfl, ?_⟩) hHeld ?_
          rotate_left
          · (intro wz hSw; (try dsimp only at hSw); go_simp; try with_reducible rfl)
          try simp only [Act.put, List.setIfInBounds_toArray, List.set_cons_zero, List.set_cons_succ]
          refine wpAnyH_done (by kernel_rfl) ?_ _
          have hMn := hHeld.mac
          have hFn := hHeld.fF
          have hbn := hHeld.b
          rw [← hgs] at hMn
          clear hHeld
          go_wp2
          go_roundw
          case rel => exact ⟨k + 1, F', by omega, by go_num, hMn, fun j hj => by rw [← hg]; exact hFn j hj, by rw [← hg]; exact hbn⟩
          case measure => simp [intOf]; omega
      · have c1' : (x.st == 0) = false := by simpa using c1
        have c1'' : (x.st != 0) = true := by simpa using c1
        obtain ⟨e1, e2, e3, e4⟩ := hss (Or.inl c1)
        clear e1 e2 e3 e4
        rw [X.step_stop x c1] at hSv hst h1 h2 h1' h2' hgs ⊢
        go_upto_region 19 with (fail)
        refine wp_region_held_drew (S := fun wz => X.Sv w F' B x g9 x.s gw x.ws ao co x.outs wz) (by kernel_rfl) ?_ (fun hHeld => ?_)
        · exact hSv.out.turn0 ((Kept.refl _).drew.turn T0)
        refine wpAnyH_take (i := 0) (oi := { dst := some 67, op := Op.move (Operand.tmp 15), type := 4, pos := "law.go:132", after := #[], guard := none }) (v := ?_) rfl (by kernel_rfl) (by kernel_rfl) (by kernel_rfl) (fun _ _ _ h => h) (Or.inl ⟨rfl, ?_⟩) hHeld ?_
        rotate_left
        · (intro wz hSw; (try dsimp only at hSw); go_simp; try with_reducible rfl)
        try simp only [Act.put, List.setIfInBounds_toArray, List.set_cons_zero, List.set_cons_succ]
        refine wpAnyH_take (i := 1) (oi := { dst := some 68, op := Op.move (Operand.tmp 67), type := 4, pos := "law.go:132", after := #[eD 0], guard := none }) (v := ?_) rfl (by kernel_rfl) (by kernel_rfl) (by kernel_rfl) (fun _ _ _ h => h) (Or.inl ⟨rfl, ?_⟩) hHeld ?_
        rotate_left
        · (intro wz hSw; (try dsimp only at hSw); go_simp; try with_reducible rfl)
        try simp only [Act.put, List.setIfInBounds_toArray, List.set_cons_zero, List.set_cons_succ]
        refine wpAnyH_take (i := 2) (oi := { dst := some 69, op := Op.move (Operand.tmp 16), type := 4, pos := "law.go:132", after := #[eG 1], guard := some (1, false) }) (v := undef) rfl (by kernel_rfl) (by kernel_rfl) (by kernel_rfl) (fun _ _ _ h => h) (Or.inr ⟨rfl, rfl⟩) hHeld ?_
        try simp only [Act.put, List.setIfInBounds_toArray, List.set_cons_zero, List.set_cons_succ]
        refine wpAnyH_take (i := 3) (oi := { dst := some 70, op := Op.pick (Operand.tmp 68) (Operand.const (Value.bool true)) (Operand.tmp 69), type := 4, pos := "law.go:132", after := #[eD 1, eD 2], guard := none }) (v := ?_) rfl (by kernel_rfl) (by kernel_rfl) (by kernel_rfl) (fun _ _ _ h => h) (Or.inl ⟨rfl, ?_⟩) hHeld ?_
        rotate_left
        · (intro wz hSw; (try dsimp only at hSw); go_simp; try with_reducible rfl)
        try simp only [Act.put, List.setIfInBounds_toArray, List.set_cons_zero, List.set_cons_succ]
        refine wpAnyH_take (i := 4) (oi := { dst := some 71, op := Op.move (Operand.tmp 70), type := 4, pos := "law.go:132", after := #[eD 3, eC 1], guard := none }) (v := ?_) rfl (by kernel_rfl) (by kernel_rfl) (by kernel_rfl) (fun _ _ _ h => h) (Or.inl ⟨rfl, ?_⟩) hHeld ?_
        rotate_left
        · (intro wz hSw; (try dsimp only at hSw); go_simp; try with_reducible rfl)
        try simp only [Act.put, List.setIfInBounds_toArray, List.set_cons_zero, List.set_cons_succ]
        refine wpAnyH_take (i := 5) (oi := { dst := some 72, op := Op.move (Operand.tmp 6), type := 30, pos := "law.go:132", after := #[eG 4], guard := some (4, true) }) (v := ?_) rfl (by kernel_rfl) (by kernel_rfl) (by kernel_rfl) (fun _ _ _ h => h) (Or.inl ⟨rfl, ?_⟩) hHeld ?_
        rotate_left
        · (intro wz hSw; (try dsimp only at hSw); go_simp; try with_reducible rfl)
        try simp only [Act.put, List.setIfInBounds_toArray, List.set_cons_zero, List.set_cons_succ]
        refine wpAnyH_take (i := 7) (oi := { dst := some 74, op := Op.load 26 (Operand.tmp 9), type := 26, pos := "law.go:132", after := #[eG 4], guard := some (4, true) }) (v := ?_) rfl (by kernel_rfl) (by kernel_rfl) (by kernel_rfl) (fun _ _ _ h => h) (Or.inl ⟨rfl, ?_⟩) hHeld ?_
        rotate_left
        · (intro wz hSw; refine exec_load_has 26 (Operand.tmp 9) ?_ _ ?_ hSw.regs Tryz.underlying26 rfl (A.info25 _) <;> rfl)
        try simp only [Act.put, List.setIfInBounds_toArray, List.set_cons_zero, List.set_cons_succ]
        refine wpAnyH_ready (rs := [6]) (by kernel_rfl) (by simp) ?_
        refine AllReadyH.cons (o := { dst := some 73, op := Op.call { callee := Callee.value (Operand.func 16), args := #[Operand.tmp 72], argTypes := #[30] }, type := 26, pos := "law.go:132", after := #[eD 5, eC 4, eG 4], guard := some (4, true) }) rfl (fun K hK => ?_) (AllReadyH.nil)
        go_simp
        go_at_call 16
        refine (regs_any hHeld.mac).mono ?_
        rintro e wa ⟨rfl, hKa⟩
        have hN := (show (fun wz => X.Sv w F' B x g9 x.s gw x.ws ao co x.outs wz) _ from hHeld.turn0 (hKa.turn T0))
        clear hHeld
        refine hK.out _ _ hN (fun hHeld => ?_)
        clear hK K hN
        try simp only [Act.put, List.setIfInBounds_toArray, List.set_cons_zero, List.set_cons_succ]
        refine wpAnyH_take (i := 8) (oi := { dst := some 75, op := Op.binOp BinOp.neq 26 (Operand.tmp 73) (Operand.tmp 74) 26, type := 4, pos := "law.go:132", after := #[eD 6, eD 7, eG 4], guard := some (4, true) }) (v := ?_) rfl (by kernel_rfl) (by kernel_rfl) (by kernel_rfl) (fun _ _ _ h => h) (Or.inl ⟨rfl, ?_⟩) hHeld ?_
        rotate_left
        · (intro wz hSw; refine exec_neq_regs (o := { dst := some 75, op := Op.binOp BinOp.neq 26 (Operand.tmp 73) (Operand.tmp 74) 26, type := 4, pos := "law.go:132", after := #[eD 6, eD 7, eG 4], guard := some (4, true) }) (Operand.tmp 73) (Operand.tmp 74) ?_ x.s ?_ ?_ <;> rfl)
        try simp only [Act.put, List.setIfInBounds_toArray, List.set_cons_zero, List.set_cons_succ]
        refine wpAnyH_take (i := 9) (oi := { dst := some 76, op := Op.move (Operand.tmp 75), type := 4, pos := "law.go:132", after := #[eD 8, eC 6, eG 4], guard := some (4, true) }) (v := ?_) rfl (by kernel_rfl) (by kernel_rfl) (by kernel_rfl) (fun _ _ _ h => h) (Or.inl ⟨rfl, ?_⟩) hHeld ?_
        rotate_left
        · (intro wz hSw; (try dsimp only at hSw); go_simp; try with_reducible rfl)
        try simp only [Act.put, List.setIfInBounds_toArray, List.set_cons_zero, List.set_cons_succ]
        refine wpAnyH_take (i := 10) (oi := { dst := some 77, op := Op.move (Operand.tmp 6), type := 30, pos := "law.go:132", after := #[eG 9], guard := some (9, false) }) (v := ?_) rfl (by kernel_rfl) (by kernel_rfl) (by kernel_rfl) (fun _ _ _ h => h) (Or.inl ⟨rfl, ?_⟩) hHeld ?_
        rotate_left
        · (intro wz hSw; (try dsimp only at hSw); go_simp; try with_reducible rfl)
        try simp only [Act.put, List.setIfInBounds_toArray, List.set_cons_zero, List.set_cons_succ]
        refine wpAnyH_take (i := 12) (oi := { dst := some 79, op := Op.move (Operand.tmp 10), type := 23, pos := "law.go:132", after := #[eG 9], guard := some (9, false) }) (v := ?_) rfl (by kernel_rfl) (by kernel_rfl) (by kernel_rfl) (fun _ _ _ h => h) (Or.inl ⟨rfl, ?_⟩) hHeld ?_
        rotate_left
        · (intro wz hSw; (try dsimp only at hSw); go_simp; try with_reducible rfl)
        try simp only [Act.put, List.setIfInBounds_toArray, List.set_cons_zero, List.set_cons_succ]
        refine wpAnyH_ready (rs := [11]) (by kernel_rfl) (by simp) ?_
        refine AllReadyH.cons (o := { dst := some 78, op := Op.call { callee := Callee.value (Operand.func 15), args := #[Operand.tmp 77], argTypes := #[30] }, type := 23, pos := "law.go:132", after := #[eD 10, eC 9, eG 9], guard := some (9, false) }) rfl (fun K hK => ?_) (AllReadyH.nil)
        go_simp
        go_at_call 15
        refine (pc_any hHeld.mac).mono ?_
        rintro e wb ⟨rfl, rfl⟩
        have hN := (show (fun wz => X.Sv w F' B x g9 x.s gw x.ws ao co x.outs wz) _ from hHeld)
        clear hHeld
        refine hK.out _ _ hN (fun hHeld => ?_)
        clear hK K hN
        try simp only [Act.put, List.setIfInBounds_toArray, List.set_cons_zero, List.set_cons_succ]
        refine wpAnyH_take (i := 13) (oi := { dst := some 80, op := Op.binOp BinOp.neq 23 (Operand.tmp 78) (Operand.tmp 79) 23, type := 4, pos := "law.go:132", after := #[eD 11, eD 12, eG 9], guard := some (9, false) }) (v := ?_) rfl (by kernel_rfl) (by kernel_rfl) (by kernel_rfl) (fun _ _ _ h => h) (Or.inl ⟨rfl, ?_⟩) hHeld ?_
        rotate_left
        · (intro wz hSw; (try dsimp only at hSw); go_simp; try with_reducible rfl)
        try simp only [Act.put, List.setIfInBounds_toArray, List.set_cons_zero, List.set_cons_succ]
        refine wpAnyH_take (i := 14) (oi := { dst := some 81, op := Op.pick (Operand.tmp 76) (Operand.const (Value.bool true)) (Operand.tmp 80), type := 4, pos := "law.go:132", after := #[eD 9, eD 13, eG 4], guard := some (4, true) }) (v := ?_) rfl (by kernel_rfl) (by kernel_rfl) (by kernel_rfl) (fun _ _ _ h => h) (Or.inl ⟨rfl, ?_⟩) hHeld ?_
        rotate_left
        · (intro wz hSw; (try dsimp only at hSw); go_simp; try with_reducible rfl)
        try simp only [Act.put, List.setIfInBounds_toArray, List.set_cons_zero, List.set_cons_succ]
        refine wpAnyH_take (i := 15) (oi := { dst := some 82, op := Op.move (Operand.tmp 81), type := 4, pos := "law.go:132", after := #[eD 14, eC 11, eG 4], guard := some (4, true) }) (v := ?_) rfl (by kernel_rfl) (by kernel_rfl) (by kernel_rfl) (fun _ _ _ h => h) (Or.inl ⟨rfl, ?_⟩) hHeld ?_
        rotate_left
        · (intro wz hSw; (try dsimp only at hSw); go_simp; try with_reducible rfl)
        try simp only [Act.put, List.setIfInBounds_toArray, List.set_cons_zero, List.set_cons_succ]
        refine wpAnyH_take (i := 16) (oi := { dst := some 83, op := Op.move (Operand.tmp 6), type := 30, pos := "law.go:132", after := #[eG 15], guard := some (15, false) }) (v := ?_) rfl (by kernel_rfl) (by kernel_rfl) (by kernel_rfl) (fun _ _ _ h => h) (Or.inl ⟨rfl, ?_⟩) hHeld ?_
        rotate_left
        · (intro wz hSw; (try dsimp only at hSw); go_simp; try with_reducible rfl)
        try simp only [Act.put, List.setIfInBounds_toArray, List.set_cons_zero, List.set_cons_succ]
        refine wpAnyH_take (i := 18) (oi := { dst := some 85, op := Op.move (Operand.tmp 11), type := 22, pos := "law.go:132", after := #[eG 15], guard := some (15, false) }) (v := ?_) rfl (by kernel_rfl) (by kernel_rfl) (by kernel_rfl) (fun _ _ _ h => h) (Or.inl ⟨rfl, ?_⟩) hHeld ?_
        rotate_left
        · (intro wz hSw; (try dsimp only at hSw); go_simp; try with_reducible rfl)
        try simp only [Act.put, List.setIfInBounds_toArray, List.set_cons_zero, List.set_cons_succ]
        refine wpAnyH_ready (rs := [17]) (by kernel_rfl) (by simp) ?_
        refine AllReadyH.cons (o := { dst := some 84, op := Op.call { callee := Callee.value (Operand.func 19), args := #[Operand.tmp 83], argTypes := #[30] }, type := 22, pos := "law.go:132", after := #[eD 16, eC 15, eG 15], guard := some (15, false) }) rfl (fun K hK => ?_) (AllReadyH.nil)
        go_simp
        go_at_call 19
        refine (words_any hHeld.mac).mono ?_
        rintro e wc ⟨gx, rfl, px1, px2, px3⟩
        have hN := (show (fun wz => X.Sv w F' B x g9 x.s gw x.ws ao co x.outs wz) _ from hHeld.turn0 (px3.turn T0))
        clear hHeld
        refine hK.out _ _ hN (fun hHeld => ?_)
        clear hK K hN
        try simp only [Act.put, List.setIfInBounds_toArray, List.set_cons_zero, List.set_cons_succ]
        refine wpAnyH_ready (rs := [19]) (by kernel_rfl) (by simp) ?_
        refine AllReadyH.cons (o := { dst := some 86, op := Op.call { callee := Callee.value (Operand.func 17), args := #[Operand.tmp 84, Operand.tmp 85], argTypes := #[22, 22] }, type := 4, pos := "law.go:132", after := #[eD 17, eD 18, eC 17, eG 15], guard := some (15, false) }) rfl (fun K hK => ?_) (AllReadyH.nil)
        go_simp
        go_at_call 17
        refine (same_any px2 hHeld.words).mono ?_
        rintro e wf ⟨rfl, hKs⟩
        have hN := (show (fun wz => X.Sv w F' B x g9 x.s gw x.ws ao co x.outs wz) _ from hHeld.turn0 (hKs.turn T0))
        clear hHeld
        refine hK.out _ _ hN (fun hHeld => ?_)
        clear hK K hN
        try simp only [Act.put, List.setIfInBounds_toArray, List.set_cons_zero, List.set_cons_succ]
        refine wpAnyH_take (i := 20) (oi := { dst := some 87, op := Op.unOp UnOp.not 4 (Operand.tmp 86), type := 4, pos := "law.go:132", after := #[eD 19, eG 15], guard := some (15, false) }) (v := ?_) rfl (by kernel_rfl) (by kernel_rfl) (by kernel_rfl) (fun _ _ _ h => h) (Or.inl ⟨rfl, ?_⟩) hHeld ?_
        rotate_left
        · (intro wz hSw; (try dsimp only at hSw); go_simp; try with_reducible rfl)
        try simp only [Act.put, List.setIfInBounds_toArray, List.set_cons_zero, List.set_cons_succ]
        refine wpAnyH_take (i := 21) (oi := { dst := some 88, op := Op.pick (Operand.tmp 82) (Operand.const (Value.bool true)) (Operand.tmp 87), type := 4, pos := "law.go:132", after := #[eD 15, eD 20, eG 4], guard := some (4, true) }) (v := ?_) rfl (by kernel_rfl) (by kernel_rfl) (by kernel_rfl) (fun _ _ _ h => h) (Or.inl ⟨rfl, ?_⟩) hHeld ?_
        rotate_left
        · (intro wz hSw; (try dsimp only at hSw); go_simp; try with_reducible rfl)
        try simp only [Act.put, List.setIfInBounds_toArray, List.set_cons_zero, List.set_cons_succ]
        refine wpAnyH_take (i := 22) (oi := { dst := some 89, op := Op.move (Operand.tmp 88), type := 4, pos := "law.go:132", after := #[eD 21, eC 19, eG 4], guard := some (4, true) }) (v := ?_) rfl (by kernel_rfl) (by kernel_rfl) (by kernel_rfl) (fun _ _ _ h => h) (Or.inl ⟨rfl, ?_⟩) hHeld ?_
        rotate_left
        · (intro wz hSw; (try dsimp only at hSw); go_simp; try with_reducible rfl)
        try simp only [Act.put, List.setIfInBounds_toArray, List.set_cons_zero, List.set_cons_succ]
        refine wpAnyH_take (i := 23) (oi := { dst := some 90, op := Op.move (Operand.tmp 6), type := 30, pos := "law.go:132", after := #[eG 22], guard := some (22, false) }) (v := ?_) rfl (by kernel_rfl) (by kernel_rfl) (by kernel_rfl) (fun _ _ _ h => h) (Or.inl ⟨rfl, ?_⟩) hHeld ?_
        rotate_left
        · (intro wz hSw; (try dsimp only at hSw); go_simp; try with_reducible rfl)
        try simp only [Act.put, List.setIfInBounds_toArray, List.set_cons_zero, List.set_cons_succ]
        refine wpAnyH_take (i := 25) (oi := { dst := some 92, op := Op.move (Operand.tmp 12), type := 22, pos := "law.go:132", after := #[eG 22], guard := some (22, false) }) (v := ?_) rfl (by kernel_rfl) (by kernel_rfl) (by kernel_rfl) (fun _ _ _ h => h) (Or.inl ⟨rfl, ?_⟩) hHeld ?_
        rotate_left
        · (intro wz hSw; (try dsimp only at hSw); go_simp; try with_reducible rfl)
        try simp only [Act.put, List.setIfInBounds_toArray, List.set_cons_zero, List.set_cons_succ]
        refine wpAnyH_ready (rs := [24]) (by kernel_rfl) (by simp) ?_
        refine AllReadyH.cons (o := { dst := some 91, op := Op.call { callee := Callee.value (Operand.func 18), args := #[Operand.tmp 90], argTypes := #[30] }, type := 22, pos := "law.go:132", after := #[eD 23, eC 22, eG 22], guard := some (22, false) }) rfl (fun K hK => ?_) (AllReadyH.nil)
        go_simp
        go_at_call 18
        refine (outs_any hHeld.mac hoi).mono ?_
        rintro e wh ⟨ay, cy, rfl, py1, py2, py3⟩
        have hN := (show (fun wz => X.Sv w F' B x g9 x.s gw x.ws ao co x.outs wz) _ from hHeld.turn0 py2)
        clear hHeld
        refine hK.out _ _ hN (fun hHeld => ?_)
        clear hK K hN
        try simp only [Act.put, List.setIfInBounds_toArray, List.set_cons_zero, List.set_cons_succ]
        refine wpAnyH_ready (rs := [26]) (by kernel_rfl) (by simp) ?_
        refine AllReadyH.cons (o := { dst := some 93, op := Op.call { callee := Callee.value (Operand.func 17), args := #[Operand.tmp 91, Operand.tmp 92], argTypes := #[22, 22] }, type := 4, pos := "law.go:132", after := #[eD 24, eD 25, eC 24, eG 22], guard := some (22, false) }) rfl (fun K hK => ?_) (AllReadyH.nil)
        go_simp
        go_at_call 17
        refine (same_any py1 hHeld.outs).mono ?_
        rintro e wj ⟨rfl, hKt⟩
        have hN := (show (fun wz => X.Sv w F' B x g9 x.s gw x.ws ao co x.outs wz) _ from hHeld.turn0 (hKt.turn T0))
        clear hHeld
        refine hK.out _ _ hN (fun hHeld => ?_)
        clear hK K hN
        try simp only [Act.put, List.setIfInBounds_toArray, List.set_cons_zero, List.set_cons_succ]
        refine wpAnyH_take (i := 27) (oi := { dst := some 94, op := Op.unOp UnOp.not 4 (Operand.tmp 93), type := 4, pos := "law.go:132", after := #[eD 26, eG 22], guard := some (22, false) }) (v := ?_) rfl (by kernel_rfl) (by kernel_rfl) (by kernel_rfl) (fun _ _ _ h => h) (Or.inl ⟨rfl, ?_⟩) hHeld ?_
        rotate_left
        · (intro wz hSw; (try dsimp only at hSw); go_simp; try with_reducible rfl)
        try simp only [Act.put, List.setIfInBounds_toArray, List.set_cons_zero, List.set_cons_succ]
        refine wpAnyH_take (i := 28) (oi := { dst := some 95, op := Op.pick (Operand.tmp 89) (Operand.const (Value.bool true)) (Operand.tmp 94), type := 4, pos := "law.go:132", after := #[eD 22, eD 27, eG 4], guard := some (4, true) }) (v := ?_) rfl (by kernel_rfl) (by kernel_rfl) (by kernel_rfl) (fun _ _ _ h => h) (Or.inl ⟨rfl, ?_⟩) hHeld ?_
        rotate_left
        · (intro wz hSw; (try dsimp only at hSw); go_simp; try with_reducible rfl)
        try simp only [Act.put, List.setIfInBounds_toArray, List.set_cons_zero, List.set_cons_succ]
        refine wpAnyH_take (i := 29) (oi := { dst := some 96, op := Op.pick (Operand.tmp 71) (Operand.tmp 95) (Operand.const (Value.bool false)), type := 4, pos := "law.go:132", after := #[eD 4, eD 28], guard := none }) (v := ?_) rfl (by kernel_rfl) (by kernel_rfl) (by kernel_rfl) (fun _ _ _ h => h) (Or.inl ⟨rfl, ?_⟩) hHeld ?_
        rotate_left
        · (intro wz hSw; (try dsimp only at hSw); go_simp; try with_reducible rfl)
        try simp only [Act.put, List.setIfInBounds_toArray, List.set_cons_zero, List.set_cons_succ]
        refine wpAnyH_done (by kernel_rfl) ?_ _
        have hMn := hHeld.mac
        have hFn := hHeld.fF
        have hbn := hHeld.b
        rw [← hgs] at hMn
        clear hHeld
        go_wp2
        go_roundw
        case rel => exact ⟨k + 1, F', by omega, by go_num, hMn, fun j hj => by rw [← hg]; exact hFn j hj, by rw [← hg]; exact hbn⟩
        case measure => simp [intOf]; omega
    · have hke : k = 40 := by omega
      subst hke
      replace hb := Lib.hid hb
      clear hM
      go_wp2
      go_ret
      exact ⟨rfl, by rw [hg]; exact hb.out⟩
end Go.Proofs.YtlmddkciamdldaaGreat
