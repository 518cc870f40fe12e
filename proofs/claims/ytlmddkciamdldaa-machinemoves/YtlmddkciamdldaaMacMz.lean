/-
  The law MachineMoves.
-/
import Derived.Test.YtlmddkciamdldaaMacM
namespace Go.Proofs.Ytlmddkciamdldaa
open Go.RowKit
set_option linter.unusedVariables false
set_option linter.unusedSimpArgs false
set_option maxRecDepth 100000
def X.mv (n k0 k1 k2 k3 : Int) : Array Value := #[.int .i64 k0, .int .i64 2, .int .i64 1, .int .i64 2, .int .i64 0, .int .i64 n, .bool false, .int .i64 k1, .int .i64 0, .int .i64 3, .int .i64 2, .int .i64 0, .int .i64 n, .bool false, .int .i64 k2, .int .i64 3, .int .i64 1, .int .i64 4, .int .i64 0, .int .i64 n, .bool false, .int .i64 k3, .int .i64 1, .int .i64 5, .int .i64 4, .int .i64 0, .int .i64 n, .bool false]
def X.mvk (n : Int) : Nat → Array Value
  | 0 => X.mv n 0 0 0 0
  | 1 => X.mv n 5 0 0 0
  | 2 => X.mv n 5 5 0 0
  | 3 => X.mv n 5 5 5 0
  | _ => X.mv n 5 5 5 5
theorem X.mv_built (n : Int) : Try.prog.built 55 [(0, .agg #[.int .i64 0, .int .i64 2, .int .i64 1, .int .i64 2, .int .i64 0, .int .i64 n, .bool false]), (1, .agg #[.int .i64 0, .int .i64 0, .int .i64 3, .int .i64 2, .int .i64 0, .int .i64 n, .bool false]), (2, .agg #[.int .i64 0, .int .i64 3, .int .i64 1, .int .i64 4, .int .i64 0, .int .i64 n, .bool false]), (3, .agg #[.int .i64 0, .int .i64 1, .int .i64 5, .int .i64 4, .int .i64 0, .int .i64 n, .bool false])] = some (X.mv n 0 0 0 0) := by
  kernel_rfl
theorem X.mv_info (n k0 k1 k2 k3 : Int) : (Try.prog.info? 55).map (·.size) = some (X.mv n k0 k1 k2 k3).size := by kernel_rfl
theorem X.mv_one (n k0 k1 k2 k3 : Int) : (X.mv n k0 k1 k2 k3).all (·.oneCell') = true := by simp [X.mv, Value.oneCell']
theorem X.zero_built : Try.prog.built 27 [] = some (A.cells A.none') := by
  rw [built_of (show shapeOf Try.prog 27 = some (A.cells A.none', [(0, 16), (16, 1), (17, 1), (18, 1), (19, 1), (20, 1)]) by kernel_rfl)]; rfl
theorem X.and255 (x : Int) (x0 : 0 ≤ x) : bits .and .u32 x 255 = x % 256 := by
  have h : (BitVec.ofInt 32 255).toNat = 2 ^ 8 - 1 := by decide
  have key : (BitVec.ofInt 32 x &&& BitVec.ofInt 32 255).toNat = (x % ((2 ^ 32 : Nat) : Int)).toNat % 2 ^ 8 := by
    rw [BitVec.toNat_and, BitVec.toNat_ofInt, h, Nat.and_two_pow_sub_one_eq_mod]
  show IntKind.u32.wrap ((BitVec.ofInt 32 x &&& BitVec.ofInt 32 255).toNat : Nat) = _
  rw [key, IntKind.wrap_u32]
  omega
theorem Own.to {base g n cap : Nat} {xs : List Int} {w w' : World} (h : Own base g n cap xs w) (hb : w'.heap[g]? = w.heap[g]?) : Own base g n cap xs w' := by
  obtain ⟨h1, h2⟩ := h
  refine ⟨h1, ?_⟩
  rcases h2 with ⟨h2, _⟩ | ⟨g', cap', cur, hv, h3, hh, h4⟩
  · cases h2
  · cases hv
    exact Or.inr ⟨g, cap, cur, rfl, h3, hb.trans hh, h4⟩
theorem Own.lt {base g n cap : Nat} {xs : List Int} {w : World} (h : Own base g n cap xs w) : base ≤ g ∧ g < w.heap.size := by
  obtain ⟨h1, _, _, _, cur, hh, _⟩ := h.has
  exact ⟨h1, hh.lt⟩
theorem Own.ne {base g n cap : Nat} {xs : List Int} {w : World} (h : Own base g n cap xs w) {k : Nat} {cs : Array Value} {t : TypeId} (hk : Has k cs t w) (ht : t ≠ 24) : g ≠ k := by
  intro e
  subst e
  obtain ⟨_, _, _, _, cur, hh, _⟩ := h.has
  have := Option.some.inj (hh.symm.trans hk)
  cases this
  exact ht rfl
set_option maxHeartbeats 4000000 in
theorem walk_Moves_at (x at' by' n t m p q W0 W1 W2 W3 : Int) (x0 : 0 ≤ x) (x1 : x < 4294967296) (a0 : 0 ≤ at') (a1 : at' < 256) (b0 : -128 ≤ by') (b1 : by' ≤ 127) (w : World)
    (hn : by'.tmod 64 = n) (n0 : -63 ≤ n) (n1 : n ≤ 63) (ht : 32 + at' % 32 = t) (t0 : 32 ≤ t) (t1 : t ≤ 63) (hm : t / 4 * 4 = m) (m0 : 0 ≤ m) (m1 : m ≤ 63) (hp : (m - n) % 4294967296 = p) (hq : (t - n) % 4294967296 = q) (p0 : 0 ≤ p) (p1 : p < 4294967296) (q0 : 0 ≤ q) (q1 : q < 4294967296)
    (v0 : 0 ≤ W0 ∧ W0 < 4294967296) (v1 : 0 ≤ W1 ∧ W1 < 4294967296) (v2 : 0 ≤ W2 ∧ W2 < 4294967296) (v3 : 0 ≤ W3 ∧ W3 < 4294967296)
    (C0 : Hid (∀ w, Calls Try.prog 9 #[.agg #[.int .i64 5, .int .i64 2, .int .i64 1, .int .i64 2, .int .i64 0, .int .i64 n, .bool false]] w fun e w' => e = .returned (.tuple #[.int .u32 W0, .int .i64 0]) ∧ Kept w w'))
    (C1 : Hid (∀ w, Calls Try.prog 9 #[.agg #[.int .i64 5, .int .i64 0, .int .i64 3, .int .i64 2, .int .i64 0, .int .i64 n, .bool false]] w fun e w' => e = .returned (.tuple #[.int .u32 W1, .int .i64 0]) ∧ Kept w w'))
    (C2 : Hid (∀ w, Calls Try.prog 9 #[.agg #[.int .i64 5, .int .i64 3, .int .i64 1, .int .i64 4, .int .i64 0, .int .i64 n, .bool false]] w fun e w' => e = .returned (.tuple #[.int .u32 W2, .int .i64 0]) ∧ Kept w w'))
    (C3 : Hid (∀ w, Calls Try.prog 9 #[.agg #[.int .i64 5, .int .i64 1, .int .i64 5, .int .i64 4, .int .i64 0, .int .i64 n, .bool false]] w fun e w' => e = .returned (.tuple #[.int .u32 W3, .int .i64 0]) ∧ Kept w w'))
    (ws1 ws2 : List Int) (s1 s2 : A.Regs)
    (g1 : Hid (X.go 2 ⟨M.placed (List.replicate 16 0) 0 [W0, W1, W2, W3], A.set (A.set (A.set A.none' 1 x) 2 p) 4 q, 0, 0, [], []⟩ = ⟨ws1, s1, 8, 0, [], []⟩)) (g2 : Hid (X.go 2 ⟨ws1, s1, 8, 0, [], []⟩ = ⟨ws2, s2, 16, 0, [], []⟩))
    (r3 : s1.r 3 = x) (rn : s1.n = decide (2147483648 ≤ x)) (rz : s1.z = (x == 0)) (r5 : s2.r 5 = x % 256) (qn : s2.n = false) (qz : s2.z = (x % 256 == 0)) :
    Calls Try.prog 5 #[.int .u32 x, .int .u8 at', .int .i8 by'] w fun e w' => e = .returned (.bool true) ∧ Below w.heap.size w w' := by
  go_enter Try.func5, Try.ntmps5
  go_wp2_with (fail)
  refine (shown_any _).mono ?_; rintro e w1 ⟨rfl, hT1⟩
  have hb1 := Lib.hid (hT1.below w.heap.size (Nat.le_refl _) fun _ h => h.elim)
  clear hT1
  go_upto_region 6 with (fail)
  have hO : Hid (Own w1.heap.size w1.heap.size 0 0 [] (w1.alloc (.cells #[] 24))) := Lib.hid (Own.new w1 w1.heap.size (Nat.le_refl _))
  have hb2 := Lib.hid (hb1.out.alloc hb1.out.size (.cells #[] 24))
  have hsz : (w1.alloc (.cells #[] 24)).heap.size = w1.heap.size + 1 := size_alloc1 _ _
  have hlo : w.heap.size ≤ w1.heap.size := hb1.out.size
  clear hb1
  generalize w1.alloc (.cells #[] 24) = w2 at *
  generalize hg0 : w1.heap.size = g0 at *
  clear hg0 w1
  go_wp2_with (first
    | ((with_reducible refine build_has (o := ⟨some 40, _, _, _, _, _⟩) rfl 55 _ rfl (X.mv n 0 0 0 0) ?hf4 ?_); (case hf4 => (go_simp; exact X.mv_built n)))
    | (with_reducible refine store_last (o := ⟨none, _, _, _, _, _⟩) rfl 55 _ _ rfl _ _ rfl rfl hsz.symm (X.mv_info _ _ _ _ _) (by kernel_rfl) (X.mv_one _ _ _ _ _) ?_))
  have hA := Lib.hid (Has.new (X.mv n 0 0 0 0) 55 w2)
  have hb3 := Lib.hid (hb2.out.alloc hb2.out.size (.cells (X.mv n 0 0 0 0) 55))
  have hO3 := Lib.hid (Own.to hO.out (w' := w2.alloc (.cells (X.mv n 0 0 0 0) 55)) (((Kept.refl w2).alloc _ _).below.block _ (Own.lt hO.out).2))
  rw [hsz] at hA
  clear hb2 hO
  generalize w2.alloc (.cells (X.mv n 0 0 0 0) 55) = w3 at *
  clear hsz w2
  go_loopw [11, 13] (fun l i wr => ∃ k g cap : Nat, k ≤ 4 ∧ i = .int .i64 k ∧ l = .slice (some ⟨g, 0, none⟩) k cap ∧ Own g0 g k cap ([W0, W1, W2, W3].take k) wr ∧ Has (g0 + 1) (X.mvk n k) 55 wr ∧ Below w.heap.size w wr) (fun _ i _ => 4 - (intOf i).toNat)
  case atStart => exact ⟨0, g0, 0, by omega, rfl, rfl, hO3.out, hA.out, hb3.out⟩
  case round =>
    clear hO3 hb3 hA
    obtain ⟨k, g, cap, hk, rfl, rfl, hO, hA, hb⟩ := hrel
    rcases (by omega : k = 0 ∨ k = 1 ∨ k = 2 ∨ k = 3 ∨ k = 4) with rfl | rfl | rfl | rfl | rfl
    · have hA0 : Has (g0 + 1) (X.mv n 0 0 0 0) 55 wr := hA
      have hO0 : Own g0 g 0 cap [] wr := hO
      have hOl := hO0.lt
      have hne := hO0.ne hA0 (by decide)
      have ck : wr.cell? ⟨g0 + 1, 0, none⟩ = some (.int .i64 0) := hA0.cell 0 _ rfl
      have fk := hA0.free 0
      have hBt : But (g0 + 1) wr (wr.setCell ⟨g0 + 1, 0, none⟩ (.int .i64 5)) := (But.refl _ wr).setCell _ _
      have hA2 : Has (g0 + 1) (X.mv n 5 0 0 0) 55 (wr.setCell ⟨g0 + 1, 0, none⟩ (.int .i64 5)) := hA0.set 0 _
      have hO2 : Own g0 g 0 cap [] (wr.setCell ⟨g0 + 1, 0, none⟩ (.int .i64 5)) := hO0.to (hBt.block g hOl.2 hne)
      have hb2 : Below w.heap.size w (wr.setCell ⟨g0 + 1, 0, none⟩ (.int .i64 5)) := hb.trans ((hBt.turn (F := fun k => k = g0 + 1) rfl).below w.heap.size hb.size fun k hk => by omega)
      have hgs : g0 + 1 < (wr.setCell ⟨g0 + 1, 0, none⟩ (.int .i64 5)).heap.size := hA2.lt
      replace hA2 := Lib.hid hA2
      replace hO2 := Lib.hid hO2
      replace hb2 := Lib.hid hb2
      replace hgs := Lib.hid hgs
      clear hA0 hO0 hA hO hb hBt hOl hne
      go_upto_region 11 with (fail)
      clear ck fk
      generalize World.setCell _ _ _ = w4 at *
      go_wp2_with (with_reducible refine load_part (o := ⟨some 51, _, _, _, _, _⟩) rfl 23 _ rfl _ 0 rfl #[.int .i64 5, .int .i64 2, .int .i64 1, .int .i64 2, .int .i64 0, .int .i64 n, .bool false] hA2.out rfl Try.underlying23 rfl (by kernel_rfl) ?_)
      refine (C0.out _).mono ?_; rintro e w5 ⟨rfl, hK5⟩
      have hAl := (Kept.refl w5).alloc #[Value.int .u32 W0] 24
      have hK6 := hK5.trans hAl
      have hY := Lib.hid (Ws.one (Has.new #[Value.int .u32 W0] 24 w5) v0.1 v0.2)
      have hO6 := Lib.hid (hO2.out.to (w' := w5.alloc (.cells #[Value.int .u32 W0] 24)) (hK6.below.block g hO2.out.lt.2))
      have hA6 := Lib.hid (hA2.out.kept hK6)
      have hb6 := Lib.hid (below_kept hb2.out hK6 hb2.out.size)
      have hN6 : g0 ≤ (w5.alloc (.cells #[Value.int .u32 W0] 24)).heap.size := by have := hgs.out; have := hK6.size; omega
      replace hN6 := Lib.hid hN6
      have hgg := hO2.out.lt.1
      clear hAl hK5 hK6 hA2 hO2 hb2 hgs
      go_wp2_with (with_reducible refine append_words (o := ⟨some 60, _, _, _, _, _⟩) rfl (.tmp 57) (.tmp 59) rfl g0 g 0 cap [] rfl hO6.out _ 1 1 [W0] rfl hY.out (by omega) hN6.out ?_; intro g' cap' w7 hO7 hG7)
      have hne := hO6.out.ne hA6.out (by decide)
      have hA7 := Lib.hid (show Has (g0 + 1) (X.mv n 5 0 0 0) 55 w7 from (hG7.block _ hA6.out.lt (by intro e; exact hne (Option.some.inj e).symm)).trans hA6.out)
      have hb7 := Lib.hid (hb6.out.grown hG7 hb6.out.size (fun k e => by cases e; omega))
      replace hO7 := Lib.hid hO7
      clear hG7 hY hO6 hA6 hb6 hN6
      go_roundw
      case rel => exact ⟨0 + 1, g', cap', by omega, by go_num, rfl, hO7.out, hA7.out, hb7.out⟩
      case measure => simp [intOf]
    · have hA0 : Has (g0 + 1) (X.mv n 5 0 0 0) 55 wr := hA
      have hO0 : Own g0 g 1 cap [W0] wr := hO
      have hOl := hO0.lt
      have hne := hO0.ne hA0 (by decide)
      have ck : wr.cell? ⟨g0 + 1, 7, none⟩ = some (.int .i64 0) := hA0.cell 7 _ rfl
      have fk := hA0.free 7
      have hBt : But (g0 + 1) wr (wr.setCell ⟨g0 + 1, 7, none⟩ (.int .i64 5)) := (But.refl _ wr).setCell _ _
      have hA2 : Has (g0 + 1) (X.mv n 5 5 0 0) 55 (wr.setCell ⟨g0 + 1, 7, none⟩ (.int .i64 5)) := hA0.set 7 _
      have hO2 : Own g0 g 1 cap [W0] (wr.setCell ⟨g0 + 1, 7, none⟩ (.int .i64 5)) := hO0.to (hBt.block g hOl.2 hne)
      have hb2 : Below w.heap.size w (wr.setCell ⟨g0 + 1, 7, none⟩ (.int .i64 5)) := hb.trans ((hBt.turn (F := fun k => k = g0 + 1) rfl).below w.heap.size hb.size fun k hk => by omega)
      have hgs : g0 + 1 < (wr.setCell ⟨g0 + 1, 7, none⟩ (.int .i64 5)).heap.size := hA2.lt
      replace hA2 := Lib.hid hA2
      replace hO2 := Lib.hid hO2
      replace hb2 := Lib.hid hb2
      replace hgs := Lib.hid hgs
      clear hA0 hO0 hA hO hb hBt hOl hne
      go_upto_region 11 with (fail)
      clear ck fk
      generalize World.setCell _ _ _ = w4 at *
      go_wp2_with (with_reducible refine load_part (o := ⟨some 51, _, _, _, _, _⟩) rfl 23 _ rfl _ 7 rfl #[.int .i64 5, .int .i64 0, .int .i64 3, .int .i64 2, .int .i64 0, .int .i64 n, .bool false] hA2.out rfl Try.underlying23 rfl (by kernel_rfl) ?_)
      refine (C1.out _).mono ?_; rintro e w5 ⟨rfl, hK5⟩
      have hAl := (Kept.refl w5).alloc #[Value.int .u32 W1] 24
      have hK6 := hK5.trans hAl
      have hY := Lib.hid (Ws.one (Has.new #[Value.int .u32 W1] 24 w5) v1.1 v1.2)
      have hO6 := Lib.hid (hO2.out.to (w' := w5.alloc (.cells #[Value.int .u32 W1] 24)) (hK6.below.block g hO2.out.lt.2))
      have hA6 := Lib.hid (hA2.out.kept hK6)
      have hb6 := Lib.hid (below_kept hb2.out hK6 hb2.out.size)
      have hN6 : g0 ≤ (w5.alloc (.cells #[Value.int .u32 W1] 24)).heap.size := by have := hgs.out; have := hK6.size; omega
      replace hN6 := Lib.hid hN6
      have hgg := hO2.out.lt.1
      clear hAl hK5 hK6 hA2 hO2 hb2 hgs
      go_wp2_with (with_reducible refine append_words (o := ⟨some 60, _, _, _, _, _⟩) rfl (.tmp 57) (.tmp 59) rfl g0 g 1 cap [W0] rfl hO6.out _ 1 1 [W1] rfl hY.out (by omega) hN6.out ?_; intro g' cap' w7 hO7 hG7)
      have hne := hO6.out.ne hA6.out (by decide)
      have hA7 := Lib.hid (show Has (g0 + 1) (X.mv n 5 5 0 0) 55 w7 from (hG7.block _ hA6.out.lt (by intro e; exact hne (Option.some.inj e).symm)).trans hA6.out)
      have hb7 := Lib.hid (hb6.out.grown hG7 hb6.out.size (fun k e => by cases e; omega))
      replace hO7 := Lib.hid hO7
      clear hG7 hY hO6 hA6 hb6 hN6
      go_roundw
      case rel => exact ⟨1 + 1, g', cap', by omega, by go_num, rfl, hO7.out, hA7.out, hb7.out⟩
      case measure => simp [intOf]
    · have hA0 : Has (g0 + 1) (X.mv n 5 5 0 0) 55 wr := hA
      have hO0 : Own g0 g 2 cap [W0, W1] wr := hO
      have hOl := hO0.lt
      have hne := hO0.ne hA0 (by decide)
      have ck : wr.cell? ⟨g0 + 1, 14, none⟩ = some (.int .i64 0) := hA0.cell 14 _ rfl
      have fk := hA0.free 14
      have hBt : But (g0 + 1) wr (wr.setCell ⟨g0 + 1, 14, none⟩ (.int .i64 5)) := (But.refl _ wr).setCell _ _
      have hA2 : Has (g0 + 1) (X.mv n 5 5 5 0) 55 (wr.setCell ⟨g0 + 1, 14, none⟩ (.int .i64 5)) := hA0.set 14 _
      have hO2 : Own g0 g 2 cap [W0, W1] (wr.setCell ⟨g0 + 1, 14, none⟩ (.int .i64 5)) := hO0.to (hBt.block g hOl.2 hne)
      have hb2 : Below w.heap.size w (wr.setCell ⟨g0 + 1, 14, none⟩ (.int .i64 5)) := hb.trans ((hBt.turn (F := fun k => k = g0 + 1) rfl).below w.heap.size hb.size fun k hk => by omega)
      have hgs : g0 + 1 < (wr.setCell ⟨g0 + 1, 14, none⟩ (.int .i64 5)).heap.size := hA2.lt
      replace hA2 := Lib.hid hA2
      replace hO2 := Lib.hid hO2
      replace hb2 := Lib.hid hb2
      replace hgs := Lib.hid hgs
      clear hA0 hO0 hA hO hb hBt hOl hne
      go_upto_region 11 with (fail)
      clear ck fk
      generalize World.setCell _ _ _ = w4 at *
      go_wp2_with (with_reducible refine load_part (o := ⟨some 51, _, _, _, _, _⟩) rfl 23 _ rfl _ 14 rfl #[.int .i64 5, .int .i64 3, .int .i64 1, .int .i64 4, .int .i64 0, .int .i64 n, .bool false] hA2.out rfl Try.underlying23 rfl (by kernel_rfl) ?_)
      refine (C2.out _).mono ?_; rintro e w5 ⟨rfl, hK5⟩
      have hAl := (Kept.refl w5).alloc #[Value.int .u32 W2] 24
      have hK6 := hK5.trans hAl
      have hY := Lib.hid (Ws.one (Has.new #[Value.int .u32 W2] 24 w5) v2.1 v2.2)
      have hO6 := Lib.hid (hO2.out.to (w' := w5.alloc (.cells #[Value.int .u32 W2] 24)) (hK6.below.block g hO2.out.lt.2))
      have hA6 := Lib.hid (hA2.out.kept hK6)
      have hb6 := Lib.hid (below_kept hb2.out hK6 hb2.out.size)
      have hN6 : g0 ≤ (w5.alloc (.cells #[Value.int .u32 W2] 24)).heap.size := by have := hgs.out; have := hK6.size; omega
      replace hN6 := Lib.hid hN6
      have hgg := hO2.out.lt.1
      clear hAl hK5 hK6 hA2 hO2 hb2 hgs
      go_wp2_with (with_reducible refine append_words (o := ⟨some 60, _, _, _, _, _⟩) rfl (.tmp 57) (.tmp 59) rfl g0 g 2 cap [W0, W1] rfl hO6.out _ 1 1 [W2] rfl hY.out (by omega) hN6.out ?_; intro g' cap' w7 hO7 hG7)
      have hne := hO6.out.ne hA6.out (by decide)
      have hA7 := Lib.hid (show Has (g0 + 1) (X.mv n 5 5 5 0) 55 w7 from (hG7.block _ hA6.out.lt (by intro e; exact hne (Option.some.inj e).symm)).trans hA6.out)
      have hb7 := Lib.hid (hb6.out.grown hG7 hb6.out.size (fun k e => by cases e; omega))
      replace hO7 := Lib.hid hO7
      clear hG7 hY hO6 hA6 hb6 hN6
      go_roundw
      case rel => exact ⟨2 + 1, g', cap', by omega, by go_num, rfl, hO7.out, hA7.out, hb7.out⟩
      case measure => simp [intOf]
    · have hA0 : Has (g0 + 1) (X.mv n 5 5 5 0) 55 wr := hA
      have hO0 : Own g0 g 3 cap [W0, W1, W2] wr := hO
      have hOl := hO0.lt
      have hne := hO0.ne hA0 (by decide)
      have ck : wr.cell? ⟨g0 + 1, 21, none⟩ = some (.int .i64 0) := hA0.cell 21 _ rfl
      have fk := hA0.free 21
      have hBt : But (g0 + 1) wr (wr.setCell ⟨g0 + 1, 21, none⟩ (.int .i64 5)) := (But.refl _ wr).setCell _ _
      have hA2 : Has (g0 + 1) (X.mv n 5 5 5 5) 55 (wr.setCell ⟨g0 + 1, 21, none⟩ (.int .i64 5)) := hA0.set 21 _
      have hO2 : Own g0 g 3 cap [W0, W1, W2] (wr.setCell ⟨g0 + 1, 21, none⟩ (.int .i64 5)) := hO0.to (hBt.block g hOl.2 hne)
      have hb2 : Below w.heap.size w (wr.setCell ⟨g0 + 1, 21, none⟩ (.int .i64 5)) := hb.trans ((hBt.turn (F := fun k => k = g0 + 1) rfl).below w.heap.size hb.size fun k hk => by omega)
      have hgs : g0 + 1 < (wr.setCell ⟨g0 + 1, 21, none⟩ (.int .i64 5)).heap.size := hA2.lt
      replace hA2 := Lib.hid hA2
      replace hO2 := Lib.hid hO2
      replace hb2 := Lib.hid hb2
      replace hgs := Lib.hid hgs
      clear hA0 hO0 hA hO hb hBt hOl hne
      go_upto_region 11 with (fail)
      clear ck fk
      generalize World.setCell _ _ _ = w4 at *
      go_wp2_with (with_reducible refine load_part (o := ⟨some 51, _, _, _, _, _⟩) rfl 23 _ rfl _ 21 rfl #[.int .i64 5, .int .i64 1, .int .i64 5, .int .i64 4, .int .i64 0, .int .i64 n, .bool false] hA2.out rfl Try.underlying23 rfl (by kernel_rfl) ?_)
      refine (C3.out _).mono ?_; rintro e w5 ⟨rfl, hK5⟩
      have hAl := (Kept.refl w5).alloc #[Value.int .u32 W3] 24
      have hK6 := hK5.trans hAl
      have hY := Lib.hid (Ws.one (Has.new #[Value.int .u32 W3] 24 w5) v3.1 v3.2)
      have hO6 := Lib.hid (hO2.out.to (w' := w5.alloc (.cells #[Value.int .u32 W3] 24)) (hK6.below.block g hO2.out.lt.2))
      have hA6 := Lib.hid (hA2.out.kept hK6)
      have hb6 := Lib.hid (below_kept hb2.out hK6 hb2.out.size)
      have hN6 : g0 ≤ (w5.alloc (.cells #[Value.int .u32 W3] 24)).heap.size := by have := hgs.out; have := hK6.size; omega
      replace hN6 := Lib.hid hN6
      have hgg := hO2.out.lt.1
      clear hAl hK5 hK6 hA2 hO2 hb2 hgs
      go_wp2_with (with_reducible refine append_words (o := ⟨some 60, _, _, _, _, _⟩) rfl (.tmp 57) (.tmp 59) rfl g0 g 3 cap [W0, W1, W2] rfl hO6.out _ 1 1 [W3] rfl hY.out (by omega) hN6.out ?_; intro g' cap' w7 hO7 hG7)
      have hne := hO6.out.ne hA6.out (by decide)
      have hA7 := Lib.hid (show Has (g0 + 1) (X.mv n 5 5 5 5) 55 w7 from (hG7.block _ hA6.out.lt (by intro e; exact hne (Option.some.inj e).symm)).trans hA6.out)
      have hb7 := Lib.hid (hb6.out.grown hG7 hb6.out.size (fun k e => by cases e; omega))
      replace hO7 := Lib.hid hO7
      clear hG7 hY hO6 hA6 hb6 hN6
      go_roundw
      case rel => exact ⟨3 + 1, g', cap', by omega, by go_num, rfl, hO7.out, hA7.out, hb7.out⟩
      case measure => simp [intOf]
    · have hW := Lib.hid ((show Own g0 g 4 cap [W0, W1, W2, W3] wr from hO).ws (by simp; exact ⟨v0, v1, v2, v3⟩))
      replace hb := Lib.hid hb
      clear hO hA C0 C1 C2 C3
      go_wp2_with (fail)
      refine (new_live 16 (by omega) (Ws.empty wr) (by omega)).mono ?_; rintro e w4 ⟨B, rfl, hL⟩
      have hW4 := Lib.hid (hW.out.to (w' := w4) fun ad e hn => hL.below.block _ (by cases e; exact hW.out.lt hn))
      replace hL := Lib.hid hL
      clear hW
      go_wp2_with (fail)
      refine (place_live hL.out 0 _ 4 cap [W0, W1, W2, W3] hW4.out (by simp)).mono ?_; rintro e w5 ⟨rfl, hL5⟩
      obtain ⟨F, hM5, hF, hb5⟩ := hL5
      replace hM5 : Mac F B ⟨M.placed (List.replicate 16 0) 0 [W0, W1, W2, W3], A.none', 0, 0, [], []⟩ w5 := hM5
      generalize M.placed (List.replicate 16 0) 0 [W0, W1, W2, W3] = ws at *
      have hnF : ¬ F w5.heap.size := fun h => Nat.lt_irrefl _ (hM5.sub _ h)
      have hM6 := Lib.hid (hM5.kept ((Kept.refl w5).alloc (A.cells A.none') 27))
      have hb6 := Lib.hid (hb5.alloc hb5.size (.cells (A.cells A.none') 27))
      have hS := Lib.hid (Has.new (A.cells A.none') 27 w5)
      have hgw : wr.heap.size ≤ w5.heap.size := hb5.size
      replace hnF := Lib.hid hnF
      replace hF := Lib.hid hF
      replace hgw := Lib.hid hgw
      clear hL hW4 hM5 hb5
      go_upto_region 19 with (first
        | ((with_reducible refine build_has (o := ⟨some 81, _, _, _, _, _⟩) rfl 27 _ rfl (A.cells A.none') ?hf4 ?_); (case hf4 => (rw [show ((#[] : Array (Nat × Operand)).map (fun (x : Nat × Operand) => (x.1, Act.eval _ x.2))).toList = [] by simp]; exact X.zero_built)))
        | (with_reducible refine store_last rfl 27 _ _ rfl _ _ rfl rfl rfl (A.info25 _) (by kernel_rfl) (A.one_cells _) ?_))
      generalize w5.alloc (.cells (A.cells A.none') 27) = w6 at *
      generalize w5.heap.size = gs at *
      replace hS := hS.out
      have hT := Turn.refl (fun k => k = gs) w6
      have c1 : w6.cell? ⟨gs, 1, none⟩ = some (.int .u32 ((A.none').r 1)) := hS.cell 1 _ rfl
      have f1 := hS.free 1
      have hB1 : But gs w6 (w6.setCell ⟨gs, 1, none⟩ (.int .u32 x)) := (But.refl _ _).setCell _ _
      have hS' := hS.set 1 (.int .u32 x)
      rw [A.set_r _ 1 (by omega)] at hS'
      replace hT := hT.trans (hB1.turn (F := fun k => k = gs) rfl)
      clear hS hB1
      go_upto_region 20 with (fail)
      clear c1 f1
      generalize w6.setCell _ _ = w7 at *
      have hS := hS'
      clear hS'
      have c2 : w7.cell? ⟨gs, 2, none⟩ = some (.int .u32 ((A.set A.none' 1 x).r 2)) := hS.cell 2 _ rfl
      have f2 := hS.free 2
      have hB2 : But gs w7 (w7.setCell ⟨gs, 2, none⟩ (.int .u32 p)) := (But.refl _ _).setCell _ _
      have hS' := hS.set 2 (.int .u32 p)
      rw [A.set_r _ 2 (by omega)] at hS'
      replace hT := hT.trans (hB2.turn (F := fun k => k = gs) rfl)
      clear hS hB2
      go_upto_region 21 with (fail)
      clear c2 f2
      generalize w7.setCell _ _ = w8 at *
      have hS := hS'
      clear hS'
      have c4 : w8.cell? ⟨gs, 4, none⟩ = some (.int .u32 ((A.set (A.set A.none' 1 x) 2 p).r 4)) := hS.cell 4 _ rfl
      have f4 := hS.free 4
      have hB4 : But gs w8 (w8.setCell ⟨gs, 4, none⟩ (.int .u32 q)) := (But.refl _ _).setCell _ _
      have hS' := hS.set 4 (.int .u32 q)
      rw [A.set_r _ 4 (by omega)] at hS'
      replace hT := hT.trans (hB4.turn (F := fun k => k = gs) rfl)
      clear hS hB4
      go_upto_region 22 with (fail)
      clear c4 f4
      generalize w8.setCell _ _ = w9 at *
      have hS := hS'
      clear hS'
      have okS : A.Ok (A.set (A.set (A.set A.none' 1 x) 2 p) 4 q) := A.ok_set _ _ _ (A.ok_set _ _ _ (A.ok_set _ _ _ A.ok_none x0 x1) p0 p1) q0 q1
      generalize A.set (A.set (A.set A.none' 1 x) 2 p) 4 q = S at *
      have hL9 : Live wr B ⟨ws, A.none', 0, 0, [], []⟩ w9 := ⟨F, hM6.out.turn hT (fun k hk e => hnF.out (e ▸ hk)), hF.out, hb6.out.trans (hT.below wr.heap.size hb6.out.size fun k hk => by rw [hk]; exact hgw.out)⟩
      replace hL9 := Lib.hid hL9
      replace hS := Lib.hid hS
      clear hM6 hb6 hT hnF hF hgw
      go_wp2_with (with_reducible refine load_has rfl 27 _ rfl _ rfl hS.out Try.underlying27 rfl (A.info25 _) ?_)
      refine (start_live hL9.out 0 S okS (by omega) (by omega)).mono ?_; rintro e wa ⟨rfl, hLa⟩
      have CR := run_live (show Live wr B ⟨ws, S, 0, 0, [], []⟩ wa from hLa) 2 2 rfl (by omega) (by omega) (by simp)
      rw [g1.out] at CR
      replace CR := Lib.hid CR
      clear hL9 hLa hS g1
      go_wp2_with (fail)
      refine CR.out.mono ?_; rintro e wb ⟨rfl, hLb⟩
      obtain ⟨F, hMb, hF, hbb⟩ := hLb
      replace hMb := Lib.hid hMb
      replace hbb := Lib.hid hbb
      replace hF := Lib.hid hF
      clear CR
      go_wp2_with (fail)
      refine (regs_any hMb.out).mono ?_; rintro e wc ⟨rfl, hKc⟩
      have hKd := hKc.trans ((Kept.refl wc).alloc (A.cells s1) 27)
      have hMd := Lib.hid (hMb.out.kept hKd)
      have hbd := Lib.hid (below_kept hbb.out hKd hbb.out.size)
      have hR := Lib.hid (Has.new (A.cells s1) 27 wc)
      have hnF : ¬ F wc.heap.size := fun h => Nat.lt_irrefl _ (Nat.lt_of_lt_of_le (hMb.out.sub _ h) hKc.size)
      have hgr : wr.heap.size ≤ wc.heap.size := Nat.le_trans hbb.out.size hKc.size
      replace hnF := Lib.hid hnF
      replace hgr := Lib.hid hgr
      have c3 := hR.out.cell 3 _ (A.cell_r s1 3 (by omega))
      rw [r3] at c3
      have c17 : (wc.alloc (.cells (A.cells s1) 27)).cell? ⟨wc.heap.size, 17, none⟩ = some (.bool s1.n) := hR.out.cell 17 _ rfl
      have c18 : (wc.alloc (.cells (A.cells s1) 27)).cell? ⟨wc.heap.size, 18, none⟩ = some (.bool s1.z) := hR.out.cell 18 _ rfl
      rw [rn] at c17
      rw [rz] at c18
      have CR := run_any hMd.out 2 2 rfl (by omega) (by omega) (by simp)
      rw [g2.out] at CR
      replace CR := Lib.hid CR
      have hsh : (x / 2147483648 == 1) = decide (2147483648 ≤ x) := by
        by_cases c : 2147483648 ≤ x
        · rw [decide_eq_true c]; simp; omega
        · rw [decide_eq_false c]; simp; omega
      clear hKc hKd hMb hbb g2 rn rz r3
      go_wp2_with (with_reducible refine store_last rfl 27 _ _ rfl _ _ rfl rfl rfl (A.info25 _) (by kernel_rfl) (A.one_cells _) ?_)
      refine CR.out.mono ?_; rintro e we ⟨rfl, F', hMe, hTe, hF'⟩
      have hRe := (hTe.block wc.heap.size hR.out.lt hnF.out).trans hR.out
      have hbe := hbd.out.trans (hTe.below wr.heap.size hbd.out.size hF.out)
      have hnF' : ¬ F' wc.heap.size := fun h => (hF' _ h).elim hnF.out (fun h => absurd hR.out.lt (Nat.not_lt.mpr h))
      replace hRe := Lib.hid (show Has wc.heap.size (A.cells s1) 27 we from hRe)
      replace hbe := Lib.hid hbe
      replace hnF' := Lib.hid hnF'
      replace hMe := Lib.hid hMe
      clear hTe hF' CR hR hbd hMd hF hnF c3 c17 c18
      generalize wc.heap.size = gr at *
      go_wp2_with (fail)
      refine (regs_any hMe.out).mono ?_; rintro e wf ⟨rfl, hKf⟩
      have hMf := hMe.out.kept hKf
      have hRf := Lib.hid (hRe.out.kept hKf)
      have hbf := below_kept hbe.out hKf hbe.out.size
      have hB9 : But gr wf (wf.setRow gr (A.cells s2)) := (But.refl _ _).setRow _
      have hT9 := hB9.turn (F := fun k => k = gr) rfl
      have hR9 := hRf.out.row (A.cells s2)
      have hM9 := Lib.hid (hMf.turn hT9 (fun k hk e => hnF'.out (e ▸ hk)))
      have hb9 := Lib.hid (hb.out.trans ((hbf.trans (hT9.below wr.heap.size hbf.size fun k hk => by rw [hk]; exact hgr.out)).mono hb.out.size))
      have c5 := hR9.cell 5 _ (A.cell_r s2 5 (by omega))
      rw [r5] at c5
      have c17 : (wf.setRow gr (A.cells s2)).cell? ⟨gr, 17, none⟩ = some (.bool s2.n) := hR9.cell 17 _ rfl
      have c18 : (wf.setRow gr (A.cells s2)).cell? ⟨gr, 18, none⟩ = some (.bool s2.z) := hR9.cell 18 _ rfl
      rw [qn] at c17
      rw [qz] at c18
      have hand : bits .and .u32 x 255 = x % 256 := X.and255 x x0
      clear hKf hMf hbf hB9 hT9 hR9 hMe hRe hbe hb hnF' hgr r5 qn qz
      go_upto_region 29 with (with_reducible refine store_has rfl 27 _ _ rfl _ _ rfl rfl hRf.out (A.info25 _) (by kernel_rfl) (A.one_cells _) ?_)
      clear hRf
      generalize wf.setRow gr (A.cells s2) = wg at *
      go_wp2_with (fail)
      refine (pc_any hM9.out).mono ?_; rintro e wh ⟨rfl, rfl⟩
      clear c5 c17 c18
      go_wp2
      go_ret
      exact ⟨rfl, hb9.out⟩
theorem walk_Moves (x at' by' : Int) (x0 : 0 ≤ x) (x1 : x < 4294967296) (a0 : 0 ≤ at') (a1 : at' < 256) (b0 : -128 ≤ by') (b1 : by' ≤ 127) (w : World) :
    Calls Try.prog 5 #[.int .u32 x, .int .u8 at', .int .i8 by'] w fun e w' => e = .returned (.bool true) ∧ Below w.heap.size w w' := by
  obtain ⟨n, hn⟩ : ∃ n, by'.tmod 64 = n := ⟨_, rfl⟩
  have hnb : -63 ≤ n ∧ n ≤ 63 := by
    rw [← hn]
    have h1 := Int.tmod_lt_of_pos by' (show (0 : Int) < 64 by omega)
    have h2 := Int.lt_tmod_of_pos by' (show (0 : Int) < 64 by omega)
    omega
  have hm : ∀ op a b, 0 ≤ op → op ≤ 3 → 0 ≤ a → a ≤ 15 → 0 ≤ b → b ≤ 15 → I.May ⟨5, op, a, b, 0, n, false⟩ := fun op a b o0 o1 a0 a1 b0 b1 => mem_may op a b n o0 o1 a0 a1 b0 b1 (by omega) (by omega)
  have m0 := hm 2 1 2 (by omega) (by omega) (by omega) (by omega) (by omega) (by omega)
  have m1 := hm 0 3 2 (by omega) (by omega) (by omega) (by omega) (by omega) (by omega)
  have m2 := hm 3 1 4 (by omega) (by omega) (by omega) (by omega) (by omega) (by omega)
  have m3 := hm 1 5 4 (by omega) (by omega) (by omega) (by omega) (by omega) (by omega)
  have v0 := And.intro (I.word_lo _ m0) (I.word_hi _ m0)
  have v1 := And.intro (I.word_lo _ m1) (I.word_hi _ m1)
  have v2 := And.intro (I.word_lo _ m2) (I.word_hi _ m2)
  have v3 := And.intro (I.word_lo _ m3) (I.word_hi _ m3)
  have hl : (M.placed (List.replicate 16 0) 0 [I.word ⟨5, 2, 1, 2, 0, n, false⟩, I.word ⟨5, 0, 3, 2, 0, n, false⟩, I.word ⟨5, 3, 1, 4, 0, n, false⟩, I.word ⟨5, 1, 5, 4, 0, n, false⟩]).length = 16 := by rw [M.placed_len _ _ _ (by simp)]; simp
  have hr : ∀ y ∈ M.placed (List.replicate 16 0) 0 [I.word ⟨5, 2, 1, 2, 0, n, false⟩, I.word ⟨5, 0, 3, 2, 0, n, false⟩, I.word ⟨5, 3, 1, 4, 0, n, false⟩, I.word ⟨5, 1, 5, 4, 0, n, false⟩], 0 ≤ y ∧ y < 4294967296 := by
    intro y hy
    unfold M.placed at hy
    rcases List.mem_append.1 hy with h | h
    · rcases List.mem_append.1 h with h | h
      · simp at h
      · rcases (by simpa using h : y = _ ∨ y = _ ∨ y = _ ∨ y = _) with rfl | rfl | rfl | rfl
        · exact v0
        · exact v1
        · exact v2
        · exact v3
    · have := List.mem_of_mem_drop h
      have := List.eq_of_mem_replicate this
      omega
  obtain ⟨ws1, s1, ws2, s2, g1, g2, r3, rn, rz, r5, qn, qz⟩ := X.moves x n (32 + at' % 32) (((32 + at' % 32) / 4 * 4 - n) % 4294967296) ((32 + at' % 32 - n) % 4294967296) _ _ x0 x1 hnb.1 hnb.2 (by omega) (by omega) rfl rfl rfl hl hr rfl rfl rfl rfl
  exact walk_Moves_at x at' by' n _ _ _ _ _ _ _ _ x0 x1 a0 a1 b0 b1 w hn hnb.1 hnb.2 rfl (by omega) (by omega) rfl (by omega) (by omega) rfl rfl (by omega) (by omega) (by omega) (by omega) v0 v1 v2 v3
    (Lib.hid fun w => mem_enc _ _ _ _ _ m0 rfl w) (Lib.hid fun w => mem_enc _ _ _ _ _ m1 rfl w) (Lib.hid fun w => mem_enc _ _ _ _ _ m2 rfl w) (Lib.hid fun w => mem_enc _ _ _ _ _ m3 rfl w) ws1 ws2 s1 s2 (Lib.hid g1) (Lib.hid g2) r3 rn rz r5 qn qz
end Go.Proofs.Ytlmddkciamdldaa
