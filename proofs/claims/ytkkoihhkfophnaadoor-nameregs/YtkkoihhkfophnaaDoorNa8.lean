/-
  The contract of mnemonics: the map of all of them.
-/
import Derived.Test.YtkkoihhkfophnaaDoorNa7
namespace Go.Proofs.YtkkoihhkfophnaaDoor
open Go.RowKit
set_option linter.unusedVariables false
set_option linter.unusedSimpArgs false
set_option maxRecDepth 100000
/-- the package's table of conditions lies where the program's text lays it -/
def Na.Conds (w : World) : Prop := ∀ j s, Na.cs[j]? = some s → w.cell? ⟨0, j, none⟩ = some (.string s)
theorem Na.Conds.below {w w' : World} (h : Na.Conds w) (hb : Below w.heap.size w w') : Na.Conds w' := fun j s hs => by
  have h1 := h j s hs
  rw [World.cell?_of_block (w := w) (hb.block _ (World.block_lt_of_cell? w _ h1))]
  exact h1
theorem Na.make_run (w : World) : (Instr.makeMap 42 (some (.int .i64 57))).run Tryd.prog w = .ok (.map (some w.heap.size)) (w.alloc (.map #[] 0)) := by kernel_rfl
/-- the map under way: its block, the variable's, what it holds -/
structure Na.At (w0 : World) (B V n : Nat) (T : List (Na.M × ByteArray)) (w : World) : Prop where
  tab : Na.Tab B n T w
  var : w.cell? ⟨V, 0, none⟩ = some (.map (some B))
  ne : V ≠ B
  lo : w0.heap.size ≤ B
  bel : Below w0.heap.size w0 w
theorem Na.At.start (w : World) : Na.At w w.heap.size (w.heap.size + 1) 0 [] ((w.alloc (.map #[] 0)).alloc (.cells #[.map (some w.heap.size)] 42)) := by
  have h := Has.new #[.map (some w.heap.size)] 42 (w.alloc (.map #[] 0))
  have hs : (w.alloc (.map #[] 0)).heap.size = w.heap.size + 1 := by simp
  refine ⟨(Na.Tab.made w).alloc _, ?_, by omega, Nat.le_refl _, ((Below.refl _ _).alloc (Nat.le_refl _) _).alloc (by rw [hs]; omega) _⟩
  rw [hs] at h
  exact h.cell 0 _ rfl
theorem Na.At.grown {w0 w w' : World} {B V n n' : Nat} {T T' : List (Na.M × ByteArray)} (h : Na.At w0 B V n T w) (hT : Na.Tab B n' T' w') (hg : w.grownBy w' (some B)) : Na.At w0 B V n' T' w' :=
  ⟨hT, Na.grown_cell hg h.ne h.var, h.ne, h.lo, h.bel.grown hg (Nat.le_trans h.lo (Nat.le_of_lt h.tab.lt)) (fun k e => by cases e; exact h.lo)⟩
theorem Na.row_at {w0 w : World} {B V n m : Nat} {T : List (Na.M × ByteArray)} (h : Na.At w0 B V n T w) (k : Int) (ss : List ByteArray) (cs : Array Value) (hcs : cs.toList = ss.map Value.string) (hm : ss.length = m) (hk0 : 0 ≤ k) (hk1 : k ≤ 1000) (hn : n + m ≤ 900) (hsz : ∀ s ∈ ss, s.size ≤ 1000) :
    Calls Tryd.prog 31 #[.int .i64 k, .slice (some ⟨w.heap.size, 0, none⟩) m m, .pointer (some ⟨V, 0, none⟩)] (w.alloc (.cells cs 9)) fun e w' => e = .returned (.tuple #[]) ∧ Na.At w0 B V (n + m) (Na.rows k 0 ss T) w' := by
  have hb : Below w.heap.size w (w.alloc (.cells cs 9)) := (Below.refl _ _).alloc (Nat.le_refl _) _
  have hA : Na.At w0 B V n T (w.alloc (.cells cs 9)) := ⟨h.tab.alloc _, (World.cell?_of_block (w := w) (hb.block _ (World.block_lt_of_cell? w _ h.var))).trans h.var, h.ne, h.lo, Bel.trans h.bel hb⟩
  have hH := Has.new cs 9 w
  have hlt := h.tab.lt
  refine (Na.row_any (w := w.alloc (.cells cs 9)) (V := V) (B := B) (g := w.heap.size) (n := n) (m := m) (T := T) (ss := ss) k hk0 hk1 hA.var hA.tab ?_ hm hn hsz h.ne (by omega)).mono ?_
  · intro j s hs
    refine hH.cell j _ ?_
    rw [← Array.getElem?_toList, hcs, List.getElem?_map, hs]; rfl
  · rintro e w2 ⟨rfl, hT, hg⟩
    exact ⟨rfl, hA.grown hT hg⟩
theorem Na.store_at {ops : Array Oper} {rest : List Oper} {o : Oper} {a : Act} {Q : Exit → Act → World → Prop} {w0 w : World} {B V n : Nat} {T : List (Na.M × ByteArray)} (h : Na.At w0 B V n T w)
    (hg : o.guard = none) (m x v : Operand) (hop : o.op = Op.mapUpdate 42 m x v) (hm : a.eval m = .map (some B)) (hn : n < 900) (t : Na.M) (ht : Na.Wf t) (s : ByteArray) (hs : s.size ≤ 1000)
    (hx : a.eval x = Na.kv t) (hv : a.eval v = .string s) (hK : ∀ w', Na.At w0 B V (n + 1) ((t, s) :: T) w' → wpList Tryd.prog ops Q rest (a.put o.dst undef) w') : wpList Tryd.prog ops Q (o :: rest) a w :=
  Na.store hg m x v hop hm h.tab (by omega) t ht s hs hx hv (fun w' hT hg' => hK w' (h.grown hT hg'))
def Na.condA : Array Value := #[.string ⟨#[77, 73]⟩, .string ⟨#[69, 81]⟩, .string ⟨#[67, 83]⟩, .string ⟨#[86, 83]⟩, .string ⟨#[76, 83]⟩, .string ⟨#[76, 84]⟩, .string ⟨#[76, 69]⟩, .string ⟨#[]⟩, .string ⟨#[80, 76]⟩, .string ⟨#[78, 69]⟩, .string ⟨#[67, 67]⟩, .string ⟨#[86, 67]⟩, .string ⟨#[72, 73]⟩, .string ⟨#[71, 69]⟩, .string ⟨#[71, 84]⟩, .string ⟨#[78, 86]⟩]
theorem Na.cond_at (j : Nat) (hj : j < 16) : ∃ y, Na.cs[j]? = some y ∧ y.size ≤ 2 ∧ ∀ w, (Instr.index 51 (.agg Na.condA) (.int .i64 j)).run Tryd.prog w = .ok (.string y) w := by
  rcases (show j = 0 ∨ j = 1 ∨ j = 2 ∨ j = 3 ∨ j = 4 ∨ j = 5 ∨ j = 6 ∨ j = 7 ∨ j = 8 ∨ j = 9 ∨ j = 10 ∨ j = 11 ∨ j = 12 ∨ j = 13 ∨ j = 14 ∨ j = 15 by omega) with rfl | rfl | rfl | rfl | rfl | rfl | rfl | rfl | rfl | rfl | rfl | rfl | rfl | rfl | rfl | rfl
  all_goals exact ⟨_, rfl, by decide, fun w => by kernel_rfl⟩
set_option maxHeartbeats 4000000 in
set_option maxRecDepth 100000 in
theorem Na.mnemonics_any {w : World} (hC : Na.Conds w) : Calls Tryd.prog 22 #[] w fun e w' => ∃ B n, e = .returned (.map (some B)) ∧ Na.Tab B n Na.full w' ∧ Below w.heap.size w w' := by
  have hC0 := Lib.hid hC
  have hA1 := Na.At.start w
  clear hC
  go_enter Tryd.func22, Tryd.ntmps22
  have hmm := Na.make_run
  go_upto_region 3 with (fail)
  clear hmm
  generalize ((w.alloc (.map #[] 0)).alloc (.cells #[.map (some w.heap.size)] 42)) = w1 at *
  replace hA1 := Lib.hid hA1
  go_wp2_with (fail)
  refine (Na.row_at hA1.out 1 Na.sR _ rfl rfl (by omega) (by omega) (by decide) (by decide)).mono ?_; rintro e w2 ⟨rfl, hA2⟩
  replace hA2 := Lib.hid hA2
  clear hA1
  go_wp2_with (fail)
  refine (Na.row_at hA2.out 3 Na.sH _ rfl rfl (by omega) (by omega) (by decide) (by decide)).mono ?_; rintro e w3 ⟨rfl, hA3⟩
  replace hA3 := Lib.hid hA3
  clear hA2
  go_wp2_with (fail)
  refine (Na.row_at hA3.out 4 Na.sF _ rfl rfl (by omega) (by omega) (by decide) (by decide)).mono ?_; rintro e w4 ⟨rfl, hA4⟩
  replace hA4 := Lib.hid hA4
  clear hA3
  go_wp2_with (fail)
  refine (Na.row_at hA4.out 5 Na.sM _ rfl rfl (by omega) (by omega) (by decide) (by decide)).mono ?_; rintro e w5 ⟨rfl, hA5⟩
  replace hA5 := Lib.hid hA5
  clear hA4
  go_wp2_with (fail)
  refine (Na.row_at hA5.out 8 Na.sL _ rfl rfl (by omega) (by omega) (by decide) (by decide)).mono ?_; rintro e w6 ⟨rfl, hA6⟩
  replace hA6 := Lib.hid hA6
  clear hA5
  go_wp2_with (fail)
  refine (Na.row_at hA6.out 9 Na.sW _ rfl rfl (by omega) (by omega) (by decide) (by decide)).mono ?_; rintro e w7 ⟨rfl, hA7⟩
  replace hA7 := Lib.hid hA7
  clear hA6
  go_wp2_with (fail)
  refine (Na.row_at hA7.out 10 Na.sE _ rfl rfl (by omega) (by omega) (by decide) (by decide)).mono ?_; rintro e w8 ⟨rfl, hA8⟩
  replace hA8 := Lib.hid hA8
  clear hA7
  have c8 := hA8.out.var
  go_upto_region 11 with (first | (at_mapUpdate; refine Na.store_at hA8.out rfl _ _ _ rfl rfl (by decide) (1, 0, true) ⟨by decide, by decide⟩ ⟨#[77, 79, 86, 85]⟩ (by decide) rfl rfl ?_; intro w9 hA9) | fail)
  clear c8 hA8
  replace hA9 := Lib.hid hA9
  have c9 := hA9.out.var
  go_upto_region 12 with (first | (at_mapUpdate; refine Na.store_at hA9.out rfl _ _ _ rfl rfl (by decide) (1, 8, true) ⟨by decide, by decide⟩ ⟨#[65, 68, 67]⟩ (by decide) rfl rfl ?_; intro w10 hA10) | fail)
  clear c9 hA9
  replace hA10 := Lib.hid hA10
  have c10 := hA10.out.var
  go_upto_region 13 with (first | (at_mapUpdate; refine Na.store_at hA10.out rfl _ _ _ rfl rfl (by decide) (1, 9, true) ⟨by decide, by decide⟩ ⟨#[83, 66, 67]⟩ (by decide) rfl rfl ?_; intro w11 hA11) | fail)
  clear c10 hA10
  replace hA11 := Lib.hid hA11
  have c11 := hA11.out.var
  go_upto_region 14 with (first | (at_mapUpdate; refine Na.store_at hA11.out rfl _ _ _ rfl rfl (by decide) (1, 10, true) ⟨by decide, by decide⟩ ⟨#[77, 76, 85]⟩ (by decide) rfl rfl ?_; intro w12 hA12) | fail)
  clear c11 hA11
  replace hA12 := Lib.hid hA12
  have hT : Na.At w w.heap.size (w.heap.size + 1) 25 (Na.tj 0) w12 := hA12.out
  clear hA12
  replace hT := Lib.hid hT
  have hC1 : Na.Conds w12 := hC0.out.below hT.out.bel
  clear hC0
  have d0 := hC1 0 _ rfl
  have d1 := hC1 1 _ rfl
  have d2 := hC1 2 _ rfl
  have d3 := hC1 3 _ rfl
  have d4 := hC1 4 _ rfl
  have d5 := hC1 5 _ rfl
  have d6 := hC1 6 _ rfl
  have d7 := hC1 7 _ rfl
  have d8 := hC1 8 _ rfl
  have d9 := hC1 9 _ rfl
  have d10 := hC1 10 _ rfl
  have d11 := hC1 11 _ rfl
  have d12 := hC1 12 _ rfl
  have d13 := hC1 13 _ rfl
  have d14 := hC1 14 _ rfl
  have d15 := hC1 15 _ rfl
  clear hC1
  go_wp2
  clear d0 d1 d2 d3 d4 d5 d6 d7 d8 d9 d10 d11 d12 d13 d14 d15
  obtain ⟨CA, hCA⟩ : ∃ v, v = Na.condA := ⟨_, rfl⟩
  have hidx := Lib.hid Na.cond_at
  rw [← hCA] at hidx
  unfold Na.condA at hCA
  rw [← hCA]
  clear hCA
  go_loopw [3, 4, 37] (fun _ _ i wr => ∃ j : Nat, j ≤ 16 ∧ i = .int .i64 j ∧ Na.At w w.heap.size (w.heap.size + 1) (25 + 2 * j) (Na.tj j) wr) (fun _ _ i _ => 16 - (intOf i).toNat)
  case atStart => exact ⟨0, by omega, rfl, hT.out⟩
  case round =>
    clear hT
    obtain ⟨j, hj, rfl, hT⟩ := hrel
    replace hT := Lib.hid hT
    by_cases d1 : j < 16
    · have d2 : (j : Int) < 16 := by omega
      obtain ⟨y, hy, hy2, hx⟩ := hidx.out j d1
      have c1 := hT.out.var
      have hz1 : ¬ 9223372036854775807 < 1 + y.size := by omega
      have hz2 : ¬ 9223372036854775807 < 2 + y.size := by omega
      have hs1 : (ByteArray.mk #[66] ++ y).size ≤ 1000 := by rw [ByteArray.size_append]; exact Nat.le_trans (Nat.add_le_add_left hy2 _) (by decide)
      have hs2 : (ByteArray.mk #[66, 76] ++ y).size ≤ 1000 := by rw [ByteArray.size_append]; exact Nat.le_trans (Nat.add_le_add_left hy2 _) (by decide)
      have ey : Na.cs.getD j ⟨#[]⟩ = y := by rw [List.getD_eq_getElem?_getD, hy]; rfl
      replace ey := Lib.hid ey
      clear hy hidx
      go_upto_region 18 with (first | (at_mapUpdate; refine Na.store_at hT.out rfl _ _ _ rfl rfl (by omega) (7, (j : Int), false) (Na.wf_of (by omega) (by omega) (by omega) (by omega)) (ByteArray.mk #[66] ++ y) hs1 rfl rfl ?_; intro v1 hB1) | fail)
      clear hT c1
      replace hB1 := Lib.hid hB1
      have c2 := hB1.out.var
      go_wp2_with (first | (at_mapUpdate; refine Na.store_at hB1.out rfl _ _ _ rfl rfl (by omega) (7, (j : Int), true) (Na.wf_of (by omega) (by omega) (by omega) (by omega)) (ByteArray.mk #[66, 76] ++ y) hs2 rfl rfl ?_; intro v2 hB2) | fail)
      refine ⟨⟨j + 1, by omega, by go_num, ?_⟩, by simp [intOf]; omega⟩
      show Na.At w w.heap.size (w.heap.size + 1) (25 + 2 * j + 1 + 1) (((7, (j : Int), true), ⟨#[66, 76]⟩ ++ Na.cs.getD j ⟨#[]⟩) :: ((7, (j : Int), false), ⟨#[66]⟩ ++ Na.cs.getD j ⟨#[]⟩) :: Na.tj j) _
      rw [ey.out]
      exact hB2
    · have d2 : ¬ (j : Int) < 16 := by omega
      obtain rfl : j = 16 := by omega
      have c1 := hT.out.var
      go_wp2
      go_ret
      exact ⟨_, rfl, ⟨_, hT.out.tab⟩, hT.out.bel⟩
end Go.Proofs.YtkkoihhkfophnaaDoor
