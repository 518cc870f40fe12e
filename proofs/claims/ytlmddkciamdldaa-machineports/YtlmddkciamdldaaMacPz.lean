/-
  The law MachinePorts.
-/
import Derived.Test.YtlmddkciamdldaaMacP
namespace Go.Proofs.Ytlmddkciamdldaa
open Go.RowKit
set_option linter.unusedVariables false
set_option linter.unusedSimpArgs false
set_option maxRecDepth 100000
theorem few6_any (w : World) (A : Option Addr) (n c : Nat) (xs : List Int) (hx : Ws w A n c xs) :
    Calls Try.prog 18 #[.slice A n c] w fun e w' => e = .returned (.slice A (min n 20) c) ∧ w = w' := by
  have h1 := hx.le
  have h2 := hx.max
  unfold maxLen at h2
  clear hx
  by_cases c1 : n ≤ 20
  · rw [Nat.min_eq_left c1]
    go_enter Try.func18, Try.ntmps18
    go_wp2
    go_ret
    exact ⟨rfl, rfl⟩
  · rw [Nat.min_eq_right (by omega)]
    go_enter Try.func18, Try.ntmps18
    go_wp2
    go_ret
    exact ⟨rfl, rfl⟩
theorem Ws.lit3 {w : World} {g : Nat} {x y z : Int} {t : TypeId} (h : Has g #[.int .u32 x, .int .u32 y, .int .u32 z] t w) (hx : 0 ≤ x ∧ x < 4294967296) (hy : 0 ≤ y ∧ y < 4294967296) (hz : 0 ≤ z ∧ z < 4294967296) : Ws w (some ⟨g, 0, none⟩) 3 3 [x, y, z] :=
  ⟨rfl, Nat.le_refl _, by simp [maxLen], by simp, by simpa using ⟨hx, hy, hz⟩, fun ad e j v hv => by
    cases e
    match j, hv with
    | 0, hv => cases hv; exact h.cell 0 _ rfl
    | 1, hv => cases hv; exact h.cell 1 _ rfl
    | 2, hv => cases hv; exact h.cell 2 _ rfl⟩
theorem X.zero_built' : Try.prog.built 27 [] = some (A.cells A.none') := by
  rw [built_of (show shapeOf Try.prog 27 = some (A.cells A.none', [(0, 16), (16, 1), (17, 1), (18, 1), (19, 1), (20, 1)]) by kernel_rfl)]; rfl
def X.od (k0 k1 k2 k3 k4 : Int) : Array Value := #[.int .i64 k0, .int .i64 0, .int .i64 0, .int .i64 0, .int .i64 0, .int .i64 (-60), .bool false, .int .i64 k1, .int .i64 2, .int .i64 0, .int .i64 0, .int .i64 0, .int .i64 (-64), .bool false, .int .i64 k2, .int .i64 1, .int .i64 0, .int .i64 0, .int .i64 0, .int .i64 (-64), .bool false, .int .i64 k3, .int .i64 3, .int .i64 0, .int .i64 0, .int .i64 0, .int .i64 (-60), .bool false, .int .i64 k4, .int .i64 0, .int .i64 0, .int .i64 0, .int .i64 0, .int .i64 (-56), .bool false]
def X.odk : Nat → Array Value
  | 0 => X.od 0 0 0 0 0
  | 1 => X.od 5 0 0 0 0
  | 2 => X.od 5 5 0 0 0
  | 3 => X.od 5 5 5 0 0
  | 4 => X.od 5 5 5 5 0
  | _ => X.od 5 5 5 5 5
theorem X.od_built : Try.prog.built 52 [(0, .agg #[.int .i64 0, .int .i64 0, .int .i64 0, .int .i64 0, .int .i64 0, .int .i64 (-60), .bool false]), (1, .agg #[.int .i64 0, .int .i64 2, .int .i64 0, .int .i64 0, .int .i64 0, .int .i64 (-64), .bool false]), (2, .agg #[.int .i64 0, .int .i64 1, .int .i64 0, .int .i64 0, .int .i64 0, .int .i64 (-64), .bool false]), (3, .agg #[.int .i64 0, .int .i64 3, .int .i64 0, .int .i64 0, .int .i64 0, .int .i64 (-60), .bool false]), (4, .agg #[.int .i64 0, .int .i64 0, .int .i64 0, .int .i64 0, .int .i64 0, .int .i64 (-56), .bool false])] = some (X.od 0 0 0 0 0) := by kernel_rfl
theorem X.od_info (k0 k1 k2 k3 k4 : Int) : (Try.prog.info? 52).map (·.size) = some (X.od k0 k1 k2 k3 k4).size := by kernel_rfl
theorem X.od_one (k0 k1 k2 k3 k4 : Int) : (X.od k0 k1 k2 k3 k4).all (·.oneCell') = true := by simp [X.od, Value.oneCell']
set_option maxHeartbeats 4000000 in
theorem walk_Ports_at {w : World} {ap : Option Addr} {n c : Nat} {xs : List Int} (hx : Ws w ap n c xs) (m : Nat) (hmn : min n 20 = m) (m20 : m ≤ 20) (mn : m ≤ n) (L0 L1 L2 O0 O1 O2 O3 O4 H : Int)
    (vL0 : 0 ≤ L0 ∧ L0 < 4294967296) (vL1 : 0 ≤ L1 ∧ L1 < 4294967296) (vL2 : 0 ≤ L2 ∧ L2 < 4294967296) (vO0 : 0 ≤ O0 ∧ O0 < 4294967296) (vO1 : 0 ≤ O1 ∧ O1 < 4294967296) (vO2 : 0 ≤ O2 ∧ O2 < 4294967296) (vO3 : 0 ≤ O3 ∧ O3 < 4294967296) (vO4 : 0 ≤ O4 ∧ O4 < 4294967296) (vH : 0 ≤ H ∧ H < 4294967296)
    (CL : Hid (∀ w, Calls Try.prog 9 #[.agg #[.int .i64 5, .int .i64 0, .int .i64 1, .int .i64 0, .int .i64 0, .int .i64 (-64), .bool false]] w fun e w' => e = .returned (.tuple #[.int .u32 L0, .int .i64 0]) ∧ Kept w w'))
    (CS : Hid (∀ w, Calls Try.prog 9 #[.agg #[.int .i64 5, .int .i64 2, .int .i64 1, .int .i64 0, .int .i64 0, .int .i64 (-60), .bool false]] w fun e w' => e = .returned (.tuple #[.int .u32 L1, .int .i64 0]) ∧ Kept w w'))
    (CJ : Hid (∀ w, Calls Try.prog 9 #[.agg #[.int .i64 7, .int .i64 7, .int .i64 0, .int .i64 0, .int .i64 0, .int .i64 (-3), .bool false]] w fun e w' => e = .returned (.tuple #[.int .u32 L2, .int .i64 0]) ∧ Kept w w'))
    (C0 : Hid (∀ w, Calls Try.prog 9 #[.agg #[.int .i64 5, .int .i64 0, .int .i64 0, .int .i64 0, .int .i64 0, .int .i64 (-60), .bool false]] w fun e w' => e = .returned (.tuple #[.int .u32 O0, .int .i64 0]) ∧ Kept w w'))
    (C1 : Hid (∀ w, Calls Try.prog 9 #[.agg #[.int .i64 5, .int .i64 2, .int .i64 0, .int .i64 0, .int .i64 0, .int .i64 (-64), .bool false]] w fun e w' => e = .returned (.tuple #[.int .u32 O1, .int .i64 0]) ∧ Kept w w'))
    (C2 : Hid (∀ w, Calls Try.prog 9 #[.agg #[.int .i64 5, .int .i64 1, .int .i64 0, .int .i64 0, .int .i64 0, .int .i64 (-64), .bool false]] w fun e w' => e = .returned (.tuple #[.int .u32 O2, .int .i64 0]) ∧ Kept w w'))
    (C3 : Hid (∀ w, Calls Try.prog 9 #[.agg #[.int .i64 5, .int .i64 3, .int .i64 0, .int .i64 0, .int .i64 0, .int .i64 (-60), .bool false]] w fun e w' => e = .returned (.tuple #[.int .u32 O3, .int .i64 0]) ∧ Kept w w'))
    (C4 : Hid (∀ w, Calls Try.prog 9 #[.agg #[.int .i64 5, .int .i64 0, .int .i64 0, .int .i64 0, .int .i64 0, .int .i64 (-56), .bool false]] w fun e w' => e = .returned (.tuple #[.int .u32 O4, .int .i64 0]) ∧ Kept w w'))
    (CH : Hid (∀ w, Calls Try.prog 9 #[.agg #[.int .i64 5, .int .i64 2, .int .i64 1, .int .i64 0, .int .i64 0, .int .i64 (-56), .bool false]] w fun e w' => e = .returned (.tuple #[.int .u32 H, .int .i64 0]) ∧ Kept w w'))
    (l o is1 : List Int) (s1 : A.Regs) (hl : xs.take m = l) (ho : o.length = m + 2) (hot : o.take m = l) (ho0 : o[m]? = some 0) (ho1 : o[m + 1]? = some 0)
    (g1 : Hid (X.go (3 * m + 6) ⟨[L0, L1, L2], A.none', 0, 0, l, []⟩ = ⟨[L0, L1, L2], s1, 0, 0, is1, o⟩))
    (d0 : Hid (∀ ws, ws.length = 3 → X.step ⟨M.placed ws 0 [O0], A.none', 0, 0, is1, o⟩ = ⟨M.placed ws 0 [O0], A.none', 0, 3, is1, o⟩))
    (d1 : Hid (∀ ws, ws.length = 3 → X.step ⟨M.placed ws 0 [O1], A.none', 0, 0, is1, o⟩ = ⟨M.placed ws 0 [O1], A.none', 0, 3, is1, o⟩))
    (d2 : Hid (∀ ws, ws.length = 3 → X.step ⟨M.placed ws 0 [O2], A.none', 0, 0, is1, o⟩ = ⟨M.placed ws 0 [O2], A.none', 0, 3, is1, o⟩))
    (d3 : Hid (∀ ws, ws.length = 3 → X.step ⟨M.placed ws 0 [O3], A.none', 0, 0, is1, o⟩ = ⟨M.placed ws 0 [O3], A.none', 0, 3, is1, o⟩))
    (d4 : Hid (∀ ws, ws.length = 3 → X.step ⟨M.placed ws 0 [O4], A.none', 0, 0, is1, o⟩ = ⟨M.placed ws 0 [O4], A.none', 0, 3, is1, o⟩))
    (gh : Hid (∀ ws, ws.length = 3 → X.step ⟨M.placed ws 0 [H], A.none', 0, 0, is1, o⟩ = ⟨M.placed ws 0 [H], A.none', 4, 1, is1, o⟩)) :
    Calls Try.prog 4 #[.slice ap n c] w fun e w' => e = .returned (.bool true) ∧ Below w.heap.size w w' := by
  have hX := Lib.hid hx
  clear hx
  go_enter Try.func4, Try.ntmps4
  go_wp2_with (fail)
  refine (shown_any _).mono ?_; rintro e w1 ⟨rfl, hT1⟩
  have hb1 := Lib.hid (hT1.below w.heap.size (Nat.le_refl _) fun _ h => h.elim)
  have hX1 := Lib.hid (hX.out.to (w' := w1) fun ad e hn => hT1.block _ (by subst e; exact hX.out.lt hn) id)
  clear hT1 hX
  go_wp2_with (fail)
  refine (CL.out _).mono ?_; rintro e w2 ⟨rfl, hK2⟩
  go_wp2_with (fail)
  refine (CS.out _).mono ?_; rintro e w3 ⟨rfl, hK3⟩
  go_wp2_with (fail)
  refine (CJ.out _).mono ?_; rintro e w4 ⟨rfl, hK4⟩
  have hK := hK2.trans (hK3.trans hK4)
  have hb4 := Lib.hid (below_kept hb1.out hK hb1.out.size)
  have hX4 := Lib.hid (hX1.out.kept hK)
  clear hK2 hK3 hK4 hK hb1 hX1 CL CS CJ
  go_wp2_with (fail)
  refine (few6_any _ _ _ _ _ hX4.out).mono ?_; rintro e w4' ⟨rfl, rfl⟩
  rw [hmn]
  have hl4 : Ws w4 ap m c l := by have := hX4.out.take m mn; rwa [hl] at this
  have hlc := hl4.le
  have hlx := hl4.max
  replace hl4 := Lib.hid hl4
  clear hX4
  go_wp2_with (fail)
  refine (new_live 3 (by omega) hl4.out (by omega)).mono ?_; rintro e w5 ⟨B, rfl, hL⟩
  have hW6 := Lib.hid (Ws.lit3 (Has.new #[.int .u32 L0, .int .u32 L1, .int .u32 L2] 24 w5) vL0 vL1 vL2)
  have hL6 := Lib.hid (hL.kept ((Kept.refl w5).alloc #[.int .u32 L0, .int .u32 L1, .int .u32 L2] 24))
  clear hL
  go_wp2_with (fail)
  refine (place_live hL6.out 0 _ 3 3 [L0, L1, L2] hW6.out (by simp)).mono ?_; rintro e w7 ⟨rfl, hL7⟩
  have CR := run_live (show Live w4 B ⟨[L0, L1, L2], A.none', 0, 0, l, []⟩ w7 from hL7) (3 * (m : Int) + 6) (3 * m + 6) (by omega) (by omega) (by omega) (by show 0 + (3 * m + 6) < _; omega)
  rw [g1.out] at CR
  replace CR := Lib.hid CR
  clear hW6 hL6 hL7 g1
  go_wp2_with (fail)
  refine CR.out.mono ?_; rintro e w8 ⟨rfl, hL8⟩
  replace hL8 := Lib.hid hL8
  clear CR
  go_wp2_with (fail)
  have CO := outs_live hL8.out (show o.length ≤ 1000000000 by omega)
  rw [show (X.St.mk [L0, L1, L2] s1 0 0 is1 o).outs = o from rfl, ho] at CO
  refine CO.mono ?_; rintro e w9 ⟨A1, c1, rfl, po1, po2, po3⟩
  obtain ⟨b1, f1, rfl⟩ : ∃ b f, A1 = some ⟨b, f, none⟩ := by
    cases A1 with
    | none => have h1 := po1.nil rfl; have h2 := po1.le; omega
    | some ad => obtain ⟨b, f, rfl⟩ := po1.addr (by omega); exact ⟨b, f, rfl⟩
  have hL9 := Lib.hid (hL8.out.turn0 po2)
  have k0 := po1.cellAt m 0 ho0
  have k1 := po1.cellAt (m + 1) 0 ho1
  have pt := po1.take m (by omega)
  rw [hot] at pt
  have hl9 : Ws w9 ap m c l := hl4.out.to fun ad e hn => hL9.out.below.block _ (by subst e; exact hl4.out.lt hn)
  have CSm := same_any pt hl9
  rw [decide_eq_true (rfl : l = l)] at CSm
  replace CSm := Lib.hid CSm
  have pm := po1.max
  have pl := po1.le
  unfold maxLen at pm hlx
  have hkb : b1 < w9.heap.size := po1.lt (by omega)
  replace hkb := Lib.hid hkb
  clear CO po1 po2 po3 hL8 pt hl9 hl4
  go_wp2_with (fail)
  refine CSm.out.mono ?_; rintro e wA ⟨rfl, hKA⟩
  replace k0 := (hKA.cell hkb.out).trans k0
  replace k1 := (hKA.cell hkb.out).trans k1
  have hLA := hL9.out.kept hKA
  obtain ⟨F, hMA, hF, hbA⟩ := hLA
  have hbw := hb4.out.trans (hbA.mono hb4.out.size)
  have hFw : ∀ j, F j → w.heap.size ≤ j := fun j hj => Nat.le_trans hb4.out.size (hF j hj)
  have hn : ¬ F wA.heap.size := fun h => Nat.lt_irrefl _ (hMA.sub _ h)
  have hM := Lib.hid (hMA.kept ((Kept.refl wA).alloc (X.od 0 0 0 0 0) 52))
  have hb := Lib.hid (hbw.alloc hbw.size (.cells (X.od 0 0 0 0 0) 52))
  have hA := Lib.hid (Has.new (X.od 0 0 0 0 0) 52 wA)
  have hga : w.heap.size ≤ wA.heap.size := hbw.size
  replace hFw := Lib.hid hFw
  replace hn := Lib.hid hn
  replace hga := Lib.hid hga
  clear CSm hKA hL9 hMA hF hbA hbw hb4 hkb
  go_upto_region 14 with (fail)
  clear k0 k1
  go_wp2_with (first
    | ((with_reducible refine build_has (o := ⟨some 108, _, _, _, _, _⟩) rfl 52 _ rfl (X.od 0 0 0 0 0) ?hf4 ?_); (case hf4 => (go_simp; exact X.od_built)))
    | (with_reducible refine store_last (o := ⟨none, _, _, _, _, _⟩) rfl 52 _ _ rfl _ _ rfl rfl rfl (X.od_info _ _ _ _ _) (by kernel_rfl) (X.od_one _ _ _ _ _) ?_))
  generalize wA.alloc (.cells (X.od 0 0 0 0 0) 52) = wB at *
  generalize wA.heap.size = ga at *
  replace hga := hga.out
  go_loopw [15] (fun i wr => ∃ (k : Nat) (F : Nat → Prop) (ws : List Int) (s : A.Regs) (pc st : Int), k ≤ 5 ∧ i = .int .i64 k ∧ ws.length = 3 ∧ Mac F B ⟨ws, s, pc, st, is1, o⟩ wr ∧ ¬ F ga ∧ (∀ j, F j → w.heap.size ≤ j) ∧ Has ga (X.odk k) 52 wr ∧ Below w.heap.size w wr) (fun i _ => 5 - (intOf i).toNat)
  case atStart => exact ⟨0, F, _, _, _, _, by omega, rfl, rfl, hM.out, hn.out, hFw.out, hA.out, hb.out⟩
  case round =>
    clear hM hn hFw hA hb F s1
    obtain ⟨k, F, ws, s, pc, st, hk, rfl, hws, hM, hn, hF, hA, hb⟩ := hrel
    rcases (by omega : k = 0 ∨ k = 1 ∨ k = 2 ∨ k = 3 ∨ k = 4 ∨ k = 5) with rfl | rfl | rfl | rfl | rfl | rfl
    · have hA0 : Has ga (X.od 0 0 0 0 0) 52 wr := hA
      have ck : wr.cell? ⟨ga, 0, none⟩ = some (.int .i64 0) := hA0.cell 0 _ rfl
      have fk := hA0.free 0
      have hBt : But ga wr (wr.setCell ⟨ga, 0, none⟩ (.int .i64 5)) := (But.refl _ wr).setCell _ _
      have hA2 : Has ga (X.od 5 0 0 0 0) 52 (wr.setCell ⟨ga, 0, none⟩ (.int .i64 5)) := hA0.set 0 _
      have hTt := hBt.turn (F := fun k => k = ga) rfl
      have hM2 := Lib.hid (hM.turn hTt (fun j hj e => hn (e ▸ hj)))
      have hb2 := Lib.hid (hb.trans (hTt.below w.heap.size hb.size fun k hk => by omega))
      replace hA2 := Lib.hid hA2
      clear hA0 hA hb hBt hTt hM
      go_upto_region 19 with (fail)
      clear ck fk
      generalize World.setCell _ _ _ = w4 at *
      go_wp2_with (with_reducible refine load_part (o := ⟨some 119, _, _, _, _, _⟩) rfl 23 _ rfl _ 0 rfl #[.int .i64 5, .int .i64 0, .int .i64 0, .int .i64 0, .int .i64 0, .int .i64 (-60), .bool false] hA2.out rfl Try.underlying23 rfl (by kernel_rfl) ?_)
      refine (C0.out _).mono ?_; rintro e w5 ⟨rfl, hK5⟩
      have hAl := (Kept.refl w5).alloc #[Value.int .u32 O0] 24
      have hK6 := hK5.trans hAl
      have hW := Lib.hid (Ws.one (Has.new #[Value.int .u32 O0] 24 w5) vO0.1 vO0.2)
      have hM6 := Lib.hid (hM2.out.kept hK6)
      have hA6 := Lib.hid (hA2.out.kept hK6)
      have hb6 := Lib.hid (below_kept hb2.out hK6 hb2.out.size)
      clear hAl hK5 hK6 hM2 hA2 hb2
      go_wp2_with (fail)
      refine (place_any hM6.out 0 _ 1 1 [O0] hW.out (by show 0 + 1 ≤ ws.length; omega)).mono ?_; rintro e w7 ⟨rfl, hM7, hB7⟩
      have hA7 := Lib.hid (hB7.has (k := ga) (fun e => hn (by rw [e]; exact hM7.inB)) hA6.out)
      have hb7 := Lib.hid (hb6.out.trans ((hB7.turn (F := F) hM7.inB).below w.heap.size hb6.out.size hF))
      replace hM7 := Lib.hid hM7
      clear hM6 hA6 hb6 hW hB7
      go_wp2_with (((with_reducible refine build_has (o := ⟨some 128, _, _, _, _, _⟩) rfl 27 _ rfl (A.cells A.none') ?hf4 ?_); (case hf4 => (rw [show ((#[] : Array (Nat × Operand)).map (fun (x : Nat × Operand) => (x.1, Act.eval _ x.2))).toList = [] by simp]; exact X.zero_built'))))
      refine (start_any hM7.out 0 A.none' A.ok_none (by omega) (by omega)).mono ?_; rintro e w8 ⟨rfl, hM8, hB8⟩
      have CT := step_any (show Mac F B ⟨M.placed ws 0 [O0], A.none', 0, 0, is1, o⟩ w8 from hM8) (by show o.length < _; omega)
      rw [d0.out ws hws] at CT
      replace CT := Lib.hid CT
      have hA8 := hB8.has (k := ga) (fun e => hn (by rw [e]; exact hM8.inB)) hA7.out
      have hb8 := hb7.out.trans ((hB8.turn (F := F) hM8.inB).below w.heap.size hb7.out.size hF)
      have hl8 := hA8.lt
      replace hA8 := Lib.hid hA8
      replace hb8 := Lib.hid hb8
      replace hl8 := Lib.hid hl8
      clear hM7 hA7 hb7 hB8 hM8
      go_wp2_with (fail)
      refine CT.out.mono ?_; rintro e w9 ⟨rfl, F', hM9, hT9, hF9⟩
      have hA9 := Lib.hid ((hT9.block ga hl8.out hn).trans hA8.out)
      have hn9 : ¬ F' ga := fun h => (hF9 _ h).elim hn (fun h => by have := hl8.out; omega)
      have hG9 : ∀ j, F' j → w.heap.size ≤ j := fun j h => (hF9 j h).elim (hF j) (fun h => Nat.le_trans hb8.out.size h)
      have hb9 := Lib.hid (hb8.out.trans (hT9.below w.heap.size hb8.out.size hF))
      replace hM9 := Lib.hid hM9
      replace hn9 := Lib.hid hn9
      replace hG9 := Lib.hid hG9
      clear CT hA8 hb8 hT9 hF9 hl8
      have CO := outs_any hM9.out (show o.length ≤ 1000000000 by omega)
      rw [show (X.St.mk (M.placed ws 0 [O0]) A.none' 0 3 is1 o).outs = o from rfl, ho] at CO
      replace CO := Lib.hid CO
      go_wp2_with (fail)
      refine CO.out.mono ?_; rintro e wx ⟨A2, c2, rfl, q1, q2, q3⟩
      have hMx := Lib.hid (hM9.out.turn q2 fun _ _ h => h)
      have hAx := Lib.hid ((q2.block ga (Has.lt (show Has ga _ _ w9 from hA9.out)) id).trans hA9.out)
      have hbx := Lib.hid (hb9.out.trans (q2.below w.heap.size hb9.out.size fun _ h => h.elim))
      clear CO q1 q2 q3 hM9 hA9 hb9
      go_wp2
      go_roundw
      case rel => exact ⟨0 + 1, F', _, _, _, _, by omega, by go_num, by rw [M.placed_len _ _ _ (by show 0 + 1 ≤ ws.length; omega)]; exact hws, hMx.out, hn9.out, hG9.out, hAx.out, hbx.out⟩
      case measure => simp [intOf]
    · have hA0 : Has ga (X.od 5 0 0 0 0) 52 wr := hA
      have ck : wr.cell? ⟨ga, 7, none⟩ = some (.int .i64 0) := hA0.cell 7 _ rfl
      have fk := hA0.free 7
      have hBt : But ga wr (wr.setCell ⟨ga, 7, none⟩ (.int .i64 5)) := (But.refl _ wr).setCell _ _
      have hA2 : Has ga (X.od 5 5 0 0 0) 52 (wr.setCell ⟨ga, 7, none⟩ (.int .i64 5)) := hA0.set 7 _
      have hTt := hBt.turn (F := fun k => k = ga) rfl
      have hM2 := Lib.hid (hM.turn hTt (fun j hj e => hn (e ▸ hj)))
      have hb2 := Lib.hid (hb.trans (hTt.below w.heap.size hb.size fun k hk => by omega))
      replace hA2 := Lib.hid hA2
      clear hA0 hA hb hBt hTt hM
      go_upto_region 19 with (fail)
      clear ck fk
      generalize World.setCell _ _ _ = w4 at *
      go_wp2_with (with_reducible refine load_part (o := ⟨some 119, _, _, _, _, _⟩) rfl 23 _ rfl _ 7 rfl #[.int .i64 5, .int .i64 2, .int .i64 0, .int .i64 0, .int .i64 0, .int .i64 (-64), .bool false] hA2.out rfl Try.underlying23 rfl (by kernel_rfl) ?_)
      refine (C1.out _).mono ?_; rintro e w5 ⟨rfl, hK5⟩
      have hAl := (Kept.refl w5).alloc #[Value.int .u32 O1] 24
      have hK6 := hK5.trans hAl
      have hW := Lib.hid (Ws.one (Has.new #[Value.int .u32 O1] 24 w5) vO1.1 vO1.2)
      have hM6 := Lib.hid (hM2.out.kept hK6)
      have hA6 := Lib.hid (hA2.out.kept hK6)
      have hb6 := Lib.hid (below_kept hb2.out hK6 hb2.out.size)
      clear hAl hK5 hK6 hM2 hA2 hb2
      go_wp2_with (fail)
      refine (place_any hM6.out 0 _ 1 1 [O1] hW.out (by show 0 + 1 ≤ ws.length; omega)).mono ?_; rintro e w7 ⟨rfl, hM7, hB7⟩
      have hA7 := Lib.hid (hB7.has (k := ga) (fun e => hn (by rw [e]; exact hM7.inB)) hA6.out)
      have hb7 := Lib.hid (hb6.out.trans ((hB7.turn (F := F) hM7.inB).below w.heap.size hb6.out.size hF))
      replace hM7 := Lib.hid hM7
      clear hM6 hA6 hb6 hW hB7
      go_wp2_with (((with_reducible refine build_has (o := ⟨some 128, _, _, _, _, _⟩) rfl 27 _ rfl (A.cells A.none') ?hf4 ?_); (case hf4 => (rw [show ((#[] : Array (Nat × Operand)).map (fun (x : Nat × Operand) => (x.1, Act.eval _ x.2))).toList = [] by simp]; exact X.zero_built'))))
      refine (start_any hM7.out 0 A.none' A.ok_none (by omega) (by omega)).mono ?_; rintro e w8 ⟨rfl, hM8, hB8⟩
      have CT := step_any (show Mac F B ⟨M.placed ws 0 [O1], A.none', 0, 0, is1, o⟩ w8 from hM8) (by show o.length < _; omega)
      rw [d1.out ws hws] at CT
      replace CT := Lib.hid CT
      have hA8 := hB8.has (k := ga) (fun e => hn (by rw [e]; exact hM8.inB)) hA7.out
      have hb8 := hb7.out.trans ((hB8.turn (F := F) hM8.inB).below w.heap.size hb7.out.size hF)
      have hl8 := hA8.lt
      replace hA8 := Lib.hid hA8
      replace hb8 := Lib.hid hb8
      replace hl8 := Lib.hid hl8
      clear hM7 hA7 hb7 hB8 hM8
      go_wp2_with (fail)
      refine CT.out.mono ?_; rintro e w9 ⟨rfl, F', hM9, hT9, hF9⟩
      have hA9 := Lib.hid ((hT9.block ga hl8.out hn).trans hA8.out)
      have hn9 : ¬ F' ga := fun h => (hF9 _ h).elim hn (fun h => by have := hl8.out; omega)
      have hG9 : ∀ j, F' j → w.heap.size ≤ j := fun j h => (hF9 j h).elim (hF j) (fun h => Nat.le_trans hb8.out.size h)
      have hb9 := Lib.hid (hb8.out.trans (hT9.below w.heap.size hb8.out.size hF))
      replace hM9 := Lib.hid hM9
      replace hn9 := Lib.hid hn9
      replace hG9 := Lib.hid hG9
      clear CT hA8 hb8 hT9 hF9 hl8
      have CO := outs_any hM9.out (show o.length ≤ 1000000000 by omega)
      rw [show (X.St.mk (M.placed ws 0 [O1]) A.none' 0 3 is1 o).outs = o from rfl, ho] at CO
      replace CO := Lib.hid CO
      go_wp2_with (fail)
      refine CO.out.mono ?_; rintro e wx ⟨A2, c2, rfl, q1, q2, q3⟩
      have hMx := Lib.hid (hM9.out.turn q2 fun _ _ h => h)
      have hAx := Lib.hid ((q2.block ga (Has.lt (show Has ga _ _ w9 from hA9.out)) id).trans hA9.out)
      have hbx := Lib.hid (hb9.out.trans (q2.below w.heap.size hb9.out.size fun _ h => h.elim))
      clear CO q1 q2 q3 hM9 hA9 hb9
      go_wp2
      go_roundw
      case rel => exact ⟨1 + 1, F', _, _, _, _, by omega, by go_num, by rw [M.placed_len _ _ _ (by show 0 + 1 ≤ ws.length; omega)]; exact hws, hMx.out, hn9.out, hG9.out, hAx.out, hbx.out⟩
      case measure => simp [intOf]
    · have hA0 : Has ga (X.od 5 5 0 0 0) 52 wr := hA
      have ck : wr.cell? ⟨ga, 14, none⟩ = some (.int .i64 0) := hA0.cell 14 _ rfl
      have fk := hA0.free 14
      have hBt : But ga wr (wr.setCell ⟨ga, 14, none⟩ (.int .i64 5)) := (But.refl _ wr).setCell _ _
      have hA2 : Has ga (X.od 5 5 5 0 0) 52 (wr.setCell ⟨ga, 14, none⟩ (.int .i64 5)) := hA0.set 14 _
      have hTt := hBt.turn (F := fun k => k = ga) rfl
      have hM2 := Lib.hid (hM.turn hTt (fun j hj e => hn (e ▸ hj)))
      have hb2 := Lib.hid (hb.trans (hTt.below w.heap.size hb.size fun k hk => by omega))
      replace hA2 := Lib.hid hA2
      clear hA0 hA hb hBt hTt hM
      go_upto_region 19 with (fail)
      clear ck fk
      generalize World.setCell _ _ _ = w4 at *
      go_wp2_with (with_reducible refine load_part (o := ⟨some 119, _, _, _, _, _⟩) rfl 23 _ rfl _ 14 rfl #[.int .i64 5, .int .i64 1, .int .i64 0, .int .i64 0, .int .i64 0, .int .i64 (-64), .bool false] hA2.out rfl Try.underlying23 rfl (by kernel_rfl) ?_)
      refine (C2.out _).mono ?_; rintro e w5 ⟨rfl, hK5⟩
      have hAl := (Kept.refl w5).alloc #[Value.int .u32 O2] 24
      have hK6 := hK5.trans hAl
      have hW := Lib.hid (Ws.one (Has.new #[Value.int .u32 O2] 24 w5) vO2.1 vO2.2)
      have hM6 := Lib.hid (hM2.out.kept hK6)
      have hA6 := Lib.hid (hA2.out.kept hK6)
      have hb6 := Lib.hid (below_kept hb2.out hK6 hb2.out.size)
      clear hAl hK5 hK6 hM2 hA2 hb2
      go_wp2_with (fail)
      refine (place_any hM6.out 0 _ 1 1 [O2] hW.out (by show 0 + 1 ≤ ws.length; omega)).mono ?_; rintro e w7 ⟨rfl, hM7, hB7⟩
      have hA7 := Lib.hid (hB7.has (k := ga) (fun e => hn (by rw [e]; exact hM7.inB)) hA6.out)
      have hb7 := Lib.hid (hb6.out.trans ((hB7.turn (F := F) hM7.inB).below w.heap.size hb6.out.size hF))
      replace hM7 := Lib.hid hM7
      clear hM6 hA6 hb6 hW hB7
      go_wp2_with (((with_reducible refine build_has (o := ⟨some 128, _, _, _, _, _⟩) rfl 27 _ rfl (A.cells A.none') ?hf4 ?_); (case hf4 => (rw [show ((#[] : Array (Nat × Operand)).map (fun (x : Nat × Operand) => (x.1, Act.eval _ x.2))).toList = [] by simp]; exact X.zero_built'))))
      refine (start_any hM7.out 0 A.none' A.ok_none (by omega) (by omega)).mono ?_; rintro e w8 ⟨rfl, hM8, hB8⟩
      have CT := step_any (show Mac F B ⟨M.placed ws 0 [O2], A.none', 0, 0, is1, o⟩ w8 from hM8) (by show o.length < _; omega)
      rw [d2.out ws hws] at CT
      replace CT := Lib.hid CT
      have hA8 := hB8.has (k := ga) (fun e => hn (by rw [e]; exact hM8.inB)) hA7.out
      have hb8 := hb7.out.trans ((hB8.turn (F := F) hM8.inB).below w.heap.size hb7.out.size hF)
      have hl8 := hA8.lt
      replace hA8 := Lib.hid hA8
      replace hb8 := Lib.hid hb8
      replace hl8 := Lib.hid hl8
      clear hM7 hA7 hb7 hB8 hM8
      go_wp2_with (fail)
      refine CT.out.mono ?_; rintro e w9 ⟨rfl, F', hM9, hT9, hF9⟩
      have hA9 := Lib.hid ((hT9.block ga hl8.out hn).trans hA8.out)
      have hn9 : ¬ F' ga := fun h => (hF9 _ h).elim hn (fun h => by have := hl8.out; omega)
      have hG9 : ∀ j, F' j → w.heap.size ≤ j := fun j h => (hF9 j h).elim (hF j) (fun h => Nat.le_trans hb8.out.size h)
      have hb9 := Lib.hid (hb8.out.trans (hT9.below w.heap.size hb8.out.size hF))
      replace hM9 := Lib.hid hM9
      replace hn9 := Lib.hid hn9
      replace hG9 := Lib.hid hG9
      clear CT hA8 hb8 hT9 hF9 hl8
      have CO := outs_any hM9.out (show o.length ≤ 1000000000 by omega)
      rw [show (X.St.mk (M.placed ws 0 [O2]) A.none' 0 3 is1 o).outs = o from rfl, ho] at CO
      replace CO := Lib.hid CO
      go_wp2_with (fail)
      refine CO.out.mono ?_; rintro e wx ⟨A2, c2, rfl, q1, q2, q3⟩
      have hMx := Lib.hid (hM9.out.turn q2 fun _ _ h => h)
      have hAx := Lib.hid ((q2.block ga (Has.lt (show Has ga _ _ w9 from hA9.out)) id).trans hA9.out)
      have hbx := Lib.hid (hb9.out.trans (q2.below w.heap.size hb9.out.size fun _ h => h.elim))
      clear CO q1 q2 q3 hM9 hA9 hb9
      go_wp2
      go_roundw
      case rel => exact ⟨2 + 1, F', _, _, _, _, by omega, by go_num, by rw [M.placed_len _ _ _ (by show 0 + 1 ≤ ws.length; omega)]; exact hws, hMx.out, hn9.out, hG9.out, hAx.out, hbx.out⟩
      case measure => simp [intOf]
    · have hA0 : Has ga (X.od 5 5 5 0 0) 52 wr := hA
      have ck : wr.cell? ⟨ga, 21, none⟩ = some (.int .i64 0) := hA0.cell 21 _ rfl
      have fk := hA0.free 21
      have hBt : But ga wr (wr.setCell ⟨ga, 21, none⟩ (.int .i64 5)) := (But.refl _ wr).setCell _ _
      have hA2 : Has ga (X.od 5 5 5 5 0) 52 (wr.setCell ⟨ga, 21, none⟩ (.int .i64 5)) := hA0.set 21 _
      have hTt := hBt.turn (F := fun k => k = ga) rfl
      have hM2 := Lib.hid (hM.turn hTt (fun j hj e => hn (e ▸ hj)))
      have hb2 := Lib.hid (hb.trans (hTt.below w.heap.size hb.size fun k hk => by omega))
      replace hA2 := Lib.hid hA2
      clear hA0 hA hb hBt hTt hM
      go_upto_region 19 with (fail)
      clear ck fk
      generalize World.setCell _ _ _ = w4 at *
      go_wp2_with (with_reducible refine load_part (o := ⟨some 119, _, _, _, _, _⟩) rfl 23 _ rfl _ 21 rfl #[.int .i64 5, .int .i64 3, .int .i64 0, .int .i64 0, .int .i64 0, .int .i64 (-60), .bool false] hA2.out rfl Try.underlying23 rfl (by kernel_rfl) ?_)
      refine (C3.out _).mono ?_; rintro e w5 ⟨rfl, hK5⟩
      have hAl := (Kept.refl w5).alloc #[Value.int .u32 O3] 24
      have hK6 := hK5.trans hAl
      have hW := Lib.hid (Ws.one (Has.new #[Value.int .u32 O3] 24 w5) vO3.1 vO3.2)
      have hM6 := Lib.hid (hM2.out.kept hK6)
      have hA6 := Lib.hid (hA2.out.kept hK6)
      have hb6 := Lib.hid (below_kept hb2.out hK6 hb2.out.size)
      clear hAl hK5 hK6 hM2 hA2 hb2
      go_wp2_with (fail)
      refine (place_any hM6.out 0 _ 1 1 [O3] hW.out (by show 0 + 1 ≤ ws.length; omega)).mono ?_; rintro e w7 ⟨rfl, hM7, hB7⟩
      have hA7 := Lib.hid (hB7.has (k := ga) (fun e => hn (by rw [e]; exact hM7.inB)) hA6.out)
      have hb7 := Lib.hid (hb6.out.trans ((hB7.turn (F := F) hM7.inB).below w.heap.size hb6.out.size hF))
      replace hM7 := Lib.hid hM7
      clear hM6 hA6 hb6 hW hB7
      go_wp2_with (((with_reducible refine build_has (o := ⟨some 128, _, _, _, _, _⟩) rfl 27 _ rfl (A.cells A.none') ?hf4 ?_); (case hf4 => (rw [show ((#[] : Array (Nat × Operand)).map (fun (x : Nat × Operand) => (x.1, Act.eval _ x.2))).toList = [] by simp]; exact X.zero_built'))))
      refine (start_any hM7.out 0 A.none' A.ok_none (by omega) (by omega)).mono ?_; rintro e w8 ⟨rfl, hM8, hB8⟩
      have CT := step_any (show Mac F B ⟨M.placed ws 0 [O3], A.none', 0, 0, is1, o⟩ w8 from hM8) (by show o.length < _; omega)
      rw [d3.out ws hws] at CT
      replace CT := Lib.hid CT
      have hA8 := hB8.has (k := ga) (fun e => hn (by rw [e]; exact hM8.inB)) hA7.out
      have hb8 := hb7.out.trans ((hB8.turn (F := F) hM8.inB).below w.heap.size hb7.out.size hF)
      have hl8 := hA8.lt
      replace hA8 := Lib.hid hA8
      replace hb8 := Lib.hid hb8
      replace hl8 := Lib.hid hl8
      clear hM7 hA7 hb7 hB8 hM8
      go_wp2_with (fail)
      refine CT.out.mono ?_; rintro e w9 ⟨rfl, F', hM9, hT9, hF9⟩
      have hA9 := Lib.hid ((hT9.block ga hl8.out hn).trans hA8.out)
      have hn9 : ¬ F' ga := fun h => (hF9 _ h).elim hn (fun h => by have := hl8.out; omega)
      have hG9 : ∀ j, F' j → w.heap.size ≤ j := fun j h => (hF9 j h).elim (hF j) (fun h => Nat.le_trans hb8.out.size h)
      have hb9 := Lib.hid (hb8.out.trans (hT9.below w.heap.size hb8.out.size hF))
      replace hM9 := Lib.hid hM9
      replace hn9 := Lib.hid hn9
      replace hG9 := Lib.hid hG9
      clear CT hA8 hb8 hT9 hF9 hl8
      have CO := outs_any hM9.out (show o.length ≤ 1000000000 by omega)
      rw [show (X.St.mk (M.placed ws 0 [O3]) A.none' 0 3 is1 o).outs = o from rfl, ho] at CO
      replace CO := Lib.hid CO
      go_wp2_with (fail)
      refine CO.out.mono ?_; rintro e wx ⟨A2, c2, rfl, q1, q2, q3⟩
      have hMx := Lib.hid (hM9.out.turn q2 fun _ _ h => h)
      have hAx := Lib.hid ((q2.block ga (Has.lt (show Has ga _ _ w9 from hA9.out)) id).trans hA9.out)
      have hbx := Lib.hid (hb9.out.trans (q2.below w.heap.size hb9.out.size fun _ h => h.elim))
      clear CO q1 q2 q3 hM9 hA9 hb9
      go_wp2
      go_roundw
      case rel => exact ⟨3 + 1, F', _, _, _, _, by omega, by go_num, by rw [M.placed_len _ _ _ (by show 0 + 1 ≤ ws.length; omega)]; exact hws, hMx.out, hn9.out, hG9.out, hAx.out, hbx.out⟩
      case measure => simp [intOf]
    · have hA0 : Has ga (X.od 5 5 5 5 0) 52 wr := hA
      have ck : wr.cell? ⟨ga, 28, none⟩ = some (.int .i64 0) := hA0.cell 28 _ rfl
      have fk := hA0.free 28
      have hBt : But ga wr (wr.setCell ⟨ga, 28, none⟩ (.int .i64 5)) := (But.refl _ wr).setCell _ _
      have hA2 : Has ga (X.od 5 5 5 5 5) 52 (wr.setCell ⟨ga, 28, none⟩ (.int .i64 5)) := hA0.set 28 _
      have hTt := hBt.turn (F := fun k => k = ga) rfl
      have hM2 := Lib.hid (hM.turn hTt (fun j hj e => hn (e ▸ hj)))
      have hb2 := Lib.hid (hb.trans (hTt.below w.heap.size hb.size fun k hk => by omega))
      replace hA2 := Lib.hid hA2
      clear hA0 hA hb hBt hTt hM
      go_upto_region 19 with (fail)
      clear ck fk
      generalize World.setCell _ _ _ = w4 at *
      go_wp2_with (with_reducible refine load_part (o := ⟨some 119, _, _, _, _, _⟩) rfl 23 _ rfl _ 28 rfl #[.int .i64 5, .int .i64 0, .int .i64 0, .int .i64 0, .int .i64 0, .int .i64 (-56), .bool false] hA2.out rfl Try.underlying23 rfl (by kernel_rfl) ?_)
      refine (C4.out _).mono ?_; rintro e w5 ⟨rfl, hK5⟩
      have hAl := (Kept.refl w5).alloc #[Value.int .u32 O4] 24
      have hK6 := hK5.trans hAl
      have hW := Lib.hid (Ws.one (Has.new #[Value.int .u32 O4] 24 w5) vO4.1 vO4.2)
      have hM6 := Lib.hid (hM2.out.kept hK6)
      have hA6 := Lib.hid (hA2.out.kept hK6)
      have hb6 := Lib.hid (below_kept hb2.out hK6 hb2.out.size)
      clear hAl hK5 hK6 hM2 hA2 hb2
      go_wp2_with (fail)
      refine (place_any hM6.out 0 _ 1 1 [O4] hW.out (by show 0 + 1 ≤ ws.length; omega)).mono ?_; rintro e w7 ⟨rfl, hM7, hB7⟩
      have hA7 := Lib.hid (hB7.has (k := ga) (fun e => hn (by rw [e]; exact hM7.inB)) hA6.out)
      have hb7 := Lib.hid (hb6.out.trans ((hB7.turn (F := F) hM7.inB).below w.heap.size hb6.out.size hF))
      replace hM7 := Lib.hid hM7
      clear hM6 hA6 hb6 hW hB7
      go_wp2_with (((with_reducible refine build_has (o := ⟨some 128, _, _, _, _, _⟩) rfl 27 _ rfl (A.cells A.none') ?hf4 ?_); (case hf4 => (rw [show ((#[] : Array (Nat × Operand)).map (fun (x : Nat × Operand) => (x.1, Act.eval _ x.2))).toList = [] by simp]; exact X.zero_built'))))
      refine (start_any hM7.out 0 A.none' A.ok_none (by omega) (by omega)).mono ?_; rintro e w8 ⟨rfl, hM8, hB8⟩
      have CT := step_any (show Mac F B ⟨M.placed ws 0 [O4], A.none', 0, 0, is1, o⟩ w8 from hM8) (by show o.length < _; omega)
      rw [d4.out ws hws] at CT
      replace CT := Lib.hid CT
      have hA8 := hB8.has (k := ga) (fun e => hn (by rw [e]; exact hM8.inB)) hA7.out
      have hb8 := hb7.out.trans ((hB8.turn (F := F) hM8.inB).below w.heap.size hb7.out.size hF)
      have hl8 := hA8.lt
      replace hA8 := Lib.hid hA8
      replace hb8 := Lib.hid hb8
      replace hl8 := Lib.hid hl8
      clear hM7 hA7 hb7 hB8 hM8
      go_wp2_with (fail)
      refine CT.out.mono ?_; rintro e w9 ⟨rfl, F', hM9, hT9, hF9⟩
      have hA9 := Lib.hid ((hT9.block ga hl8.out hn).trans hA8.out)
      have hn9 : ¬ F' ga := fun h => (hF9 _ h).elim hn (fun h => by have := hl8.out; omega)
      have hG9 : ∀ j, F' j → w.heap.size ≤ j := fun j h => (hF9 j h).elim (hF j) (fun h => Nat.le_trans hb8.out.size h)
      have hb9 := Lib.hid (hb8.out.trans (hT9.below w.heap.size hb8.out.size hF))
      replace hM9 := Lib.hid hM9
      replace hn9 := Lib.hid hn9
      replace hG9 := Lib.hid hG9
      clear CT hA8 hb8 hT9 hF9 hl8
      have CO := outs_any hM9.out (show o.length ≤ 1000000000 by omega)
      rw [show (X.St.mk (M.placed ws 0 [O4]) A.none' 0 3 is1 o).outs = o from rfl, ho] at CO
      replace CO := Lib.hid CO
      go_wp2_with (fail)
      refine CO.out.mono ?_; rintro e wx ⟨A2, c2, rfl, q1, q2, q3⟩
      have hMx := Lib.hid (hM9.out.turn q2 fun _ _ h => h)
      have hAx := Lib.hid ((q2.block ga (Has.lt (show Has ga _ _ w9 from hA9.out)) id).trans hA9.out)
      have hbx := Lib.hid (hb9.out.trans (q2.below w.heap.size hb9.out.size fun _ h => h.elim))
      clear CO q1 q2 q3 hM9 hA9 hb9
      go_wp2
      go_roundw
      case rel => exact ⟨4 + 1, F', _, _, _, _, by omega, by go_num, by rw [M.placed_len _ _ _ (by show 0 + 1 ≤ ws.length; omega)]; exact hws, hMx.out, hn9.out, hG9.out, hAx.out, hbx.out⟩
      case measure => simp [intOf]
    · have hM2 := Lib.hid hM
      have hA2 := Lib.hid hA
      have hb2 := Lib.hid hb
      clear hM hA hb
      go_wp2_with (fail)
      refine (CH.out _).mono ?_; rintro e w5 ⟨rfl, hK5⟩
      have hAl := (Kept.refl w5).alloc #[Value.int .u32 H] 24
      have hK6 := hK5.trans hAl
      have hW := Lib.hid (Ws.one (Has.new #[Value.int .u32 H] 24 w5) vH.1 vH.2)
      have hM6 := Lib.hid (hM2.out.kept hK6)
      have hA6 := Lib.hid (hA2.out.kept hK6)
      have hb6 := Lib.hid (below_kept hb2.out hK6 hb2.out.size)
      clear hAl hK5 hK6 hM2 hA2 hb2
      go_wp2_with (fail)
      refine (place_any hM6.out 0 _ 1 1 [H] hW.out (by show 0 + 1 ≤ ws.length; omega)).mono ?_; rintro e w7 ⟨rfl, hM7, hB7⟩
      have hA7 := Lib.hid (hB7.has (k := ga) (fun e => hn (by rw [e]; exact hM7.inB)) hA6.out)
      have hb7 := Lib.hid (hb6.out.trans ((hB7.turn (F := F) hM7.inB).below w.heap.size hb6.out.size hF))
      replace hM7 := Lib.hid hM7
      clear hM6 hA6 hb6 hW hB7
      go_wp2_with (((with_reducible refine build_has (o := ⟨some 155, _, _, _, _, _⟩) rfl 27 _ rfl (A.cells A.none') ?hf4 ?_); (case hf4 => (rw [show ((#[] : Array (Nat × Operand)).map (fun (x : Nat × Operand) => (x.1, Act.eval _ x.2))).toList = [] by simp]; exact X.zero_built'))))
      refine (start_any hM7.out 0 A.none' A.ok_none (by omega) (by omega)).mono ?_; rintro e w8 ⟨rfl, hM8, hB8⟩
      have CT := step_any (show Mac F B ⟨M.placed ws 0 [H], A.none', 0, 0, is1, o⟩ w8 from hM8) (by show o.length < _; omega)
      rw [gh.out ws hws] at CT
      replace CT := Lib.hid CT
      have hA8 := hB8.has (k := ga) (fun e => hn (by rw [e]; exact hM8.inB)) hA7.out
      have hb8 := hb7.out.trans ((hB8.turn (F := F) hM8.inB).below w.heap.size hb7.out.size hF)
      have hl8 := hA8.lt
      replace hA8 := Lib.hid hA8
      replace hb8 := Lib.hid hb8
      replace hl8 := Lib.hid hl8
      clear hM7 hA7 hb7 hB8 hM8
      go_wp2_with (fail)
      refine CT.out.mono ?_; rintro e w9 ⟨rfl, F', hM9, hT9, hF9⟩
      have hA9 := Lib.hid ((hT9.block ga hl8.out hn).trans hA8.out)
      have hn9 : ¬ F' ga := fun h => (hF9 _ h).elim hn (fun h => by have := hl8.out; omega)
      have hG9 : ∀ j, F' j → w.heap.size ≤ j := fun j h => (hF9 j h).elim (hF j) (fun h => Nat.le_trans hb8.out.size h)
      have hb9 := Lib.hid (hb8.out.trans (hT9.below w.heap.size hb8.out.size hF))
      replace hM9 := Lib.hid hM9
      replace hn9 := Lib.hid hn9
      replace hG9 := Lib.hid hG9
      clear CT hA8 hb8 hT9 hF9 hl8
      clear hA9 hn9
      go_wp2_with (fail)
      refine (pc_any hM9.out).mono ?_; rintro e wx ⟨rfl, rfl⟩
      have CT := step_any hM9.out (by show o.length < _; omega)
      rw [X.step_stop _ (by show ¬ (1 : Int) = 0; omega)] at CT
      replace CT := Lib.hid CT
      go_wp2_with (fail)
      refine CT.out.mono ?_; rintro e wy ⟨rfl, F2, hMy, hTy, hFy⟩
      have hbz := Lib.hid (hb9.out.trans (hTy.below w.heap.size hb9.out.size hG9.out))
      clear CT hMy hTy hFy hM9
      go_wp2
      go_ret
      exact ⟨rfl, hbz.out⟩
theorem walk_Ports {w : World} {ap : Option Addr} {n c : Nat} {xs : List Int} (hx : Ws w ap n c xs) :
    Calls Try.prog 4 #[.slice ap n c] w fun e w' => e = .returned (.bool true) ∧ Below w.heap.size w w' := by
  have hlen := hx.len
  have mL := mem_may 0 1 0 (-64) (by omega) (by omega) (by omega) (by omega) (by omega) (by omega) (by omega) (by omega)
  have mS := mem_may 2 1 0 (-60) (by omega) (by omega) (by omega) (by omega) (by omega) (by omega) (by omega) (by omega)
  have mH := mem_may 2 1 0 (-56) (by omega) (by omega) (by omega) (by omega) (by omega) (by omega) (by omega) (by omega)
  have m0 := mem_may 0 0 0 (-60) (by omega) (by omega) (by omega) (by omega) (by omega) (by omega) (by omega) (by omega)
  have m1 := mem_may 2 0 0 (-64) (by omega) (by omega) (by omega) (by omega) (by omega) (by omega) (by omega) (by omega)
  have m2 := mem_may 1 0 0 (-64) (by omega) (by omega) (by omega) (by omega) (by omega) (by omega) (by omega) (by omega)
  have m3 := mem_may 3 0 0 (-60) (by omega) (by omega) (by omega) (by omega) (by omega) (by omega) (by omega) (by omega)
  have m4 := mem_may 0 0 0 (-56) (by omega) (by omega) (by omega) (by omega) (by omega) (by omega) (by omega) (by omega)
  have hll : (xs.take (min n 20)).length = min n 20 := by rw [List.length_take]; omega
  obtain ⟨s1, is1, e1⟩ := X.ports [I.word ⟨5, 0, 1, 0, 0, -64, false⟩, I.word ⟨5, 2, 1, 0, 0, -60, false⟩, I.word ⟨7, 7, 0, 0, 0, -3, false⟩] rfl rfl rfl (min n 20 + 2) A.none' (xs.take (min n 20)) [] rfl
  have hp := X.pads_all (xs.take (min n 20))
  rw [hll] at hp
  rw [hp, List.nil_append, show 3 * (min n 20 + 2) = 3 * min n 20 + 6 by omega] at e1
  have od : ∀ (op i : Int) (ws : List Int), (op = 0 ∧ i = -60) ∨ (op = 2 ∧ i = -64) ∨ (op = 1 ∧ i = -64) ∨ (op = 3 ∧ i = -60) ∨ (op = 0 ∧ i = -56) → ws.length = 3 → X.step ⟨M.placed ws 0 [I.word ⟨5, op, 0, 0, 0, i, false⟩], A.none', 0, 0, is1, xs.take (min n 20) ++ [0, 0]⟩ = ⟨M.placed ws 0 [I.word ⟨5, op, 0, 0, 0, i, false⟩], A.none', 0, 3, is1, xs.take (min n 20) ++ [0, 0]⟩ := fun op i ws h hl =>
    X.odd _ _ _ op i (by rw [M.placed_len _ _ _ (by show 0 + 1 ≤ ws.length; omega)]; exact hl) (by rw [M.placed_in _ _ _ _ (by show 0 + 1 ≤ ws.length; omega) (by omega) (by show 0 < 0 + 1; omega)]; rfl) h
  have hg : ∀ j, (xs.take (min n 20) ++ [0, 0])[min n 20 + j]? = ([0, 0] : List Int)[j]? := fun j => by
    rw [List.getElem?_append_right (by rw [hll]; omega), hll, show min n 20 + j - min n 20 = j by omega]
  exact walk_Ports_at hx (min n 20) rfl (Nat.min_le_right _ _) (Nat.min_le_left _ _) _ _ _ _ _ _ _ _ _
    ⟨I.word_lo _ mL, I.word_hi _ mL⟩ ⟨I.word_lo _ mS, I.word_hi _ mS⟩ ⟨I.word_lo _ jmp_may, I.word_hi _ jmp_may⟩ ⟨I.word_lo _ m0, I.word_hi _ m0⟩ ⟨I.word_lo _ m1, I.word_hi _ m1⟩ ⟨I.word_lo _ m2, I.word_hi _ m2⟩ ⟨I.word_lo _ m3, I.word_hi _ m3⟩ ⟨I.word_lo _ m4, I.word_hi _ m4⟩ ⟨I.word_lo _ mH, I.word_hi _ mH⟩
    (Lib.hid fun w => mem_enc _ _ _ _ _ mL rfl w) (Lib.hid fun w => mem_enc _ _ _ _ _ mS rfl w) (Lib.hid fun w => enc_to 7 7 0 0 0 (-3) _ false jmp_may rfl w) (Lib.hid fun w => mem_enc _ _ _ _ _ m0 rfl w) (Lib.hid fun w => mem_enc _ _ _ _ _ m1 rfl w) (Lib.hid fun w => mem_enc _ _ _ _ _ m2 rfl w) (Lib.hid fun w => mem_enc _ _ _ _ _ m3 rfl w) (Lib.hid fun w => mem_enc _ _ _ _ _ m4 rfl w) (Lib.hid fun w => mem_enc _ _ _ _ _ mH rfl w)
    _ (xs.take (min n 20) ++ [0, 0]) is1 s1 rfl (by rw [List.length_append, hll]; rfl) (by rw [List.take_append_of_le_length (by omega), List.take_of_length_le (by omega)]) (by have := hg 0; simpa using this) (by have := hg 1; simpa using this)
    (Lib.hid e1) (Lib.hid fun ws h => od 0 (-60) ws (Or.inl ⟨rfl, rfl⟩) h) (Lib.hid fun ws h => od 2 (-64) ws (Or.inr (Or.inl ⟨rfl, rfl⟩)) h) (Lib.hid fun ws h => od 1 (-64) ws (Or.inr (Or.inr (Or.inl ⟨rfl, rfl⟩))) h) (Lib.hid fun ws h => od 3 (-60) ws (Or.inr (Or.inr (Or.inr (Or.inl ⟨rfl, rfl⟩)))) h) (Lib.hid fun ws h => od 0 (-56) ws (Or.inr (Or.inr (Or.inr (Or.inr ⟨rfl, rfl⟩)))) h)
    (Lib.hid fun ws h => X.halt _ _ _ (by rw [M.placed_in _ _ _ _ (by show 0 + 1 ≤ ws.length; omega) (by omega) (by show 0 < 0 + 1; omega)]; rfl))
end Go.Proofs.Ytlmddkciamdldaa
