/-
  The walk of MemoryBack.
-/
import Derived.Test.YtkefggnocmmeoaaMem5
import Derived.Test.YtkefggnocmmeoaaStill0
namespace Go.Proofs.Ytkefggnocmmeoaa
open Go.RowKit
set_option linter.unusedVariables false
set_option linter.unusedSimpArgs false
theorem M.empty_at (x : Int) : M.wt [] 0 = 3 ∧ M.bt [] 0 = 3 ∧ M.wt [] 2 = 4 ∧ M.setW [] 0 x = [] ∧ M.setB [] 0 1 = [] ∧ M.setW [] 2 x = [] := by
  simp [M.wt, M.bt, M.setW, M.setB]
theorem M.new_nil (w : World) : Calls Try.prog 9 #[.int .i64 0] w fun e w' => e = .returned (.tuple #[.pointer (some ⟨w.heap.size, 0, none⟩), .int .i64 0]) ∧ Mem w.heap.size [] w' ∧ Kept w w' ∧ w'.heap.size = w.heap.size + 1 := M.new_yes 0 (by omega) w
set_option maxRecDepth 100000 in
theorem walk_back_none (w : World) (A : Option Addr) (n c : Nat) (xs : List Int) (hX0 : Hid (Ws w A n c xs)) (m : Nat) (hm : Hid (min n 12 = m)) (ws : List Int) (hX : Hid (Ws w A m c ws)) (hm12 : m ≤ 12) (x : Int) (x0 : 0 ≤ x) (x1 : x < 4294967296) (a : Int) (a0 : 0 ≤ a) (a1 : a ≤ 65535) (h0 : m = 0) :
    Calls Try.prog 4 #[.slice A n c, .int .u16 a, .int .u32 x] w fun e w' => e = .returned (.bool true) ∧ Below w.heap.size w w' := by
  have hl := hX.out.len
  have hws : ws = [] := List.eq_nil_of_length_eq_zero (by omega)
  subst h0
  subst hws
  clear hl
  go_enter Try.func4, Try.ntmps4
  go_wp2_with (fail)
  refine (shown_any w).mono ?_; rintro e w1 ⟨rfl, hK⟩
  replace hK := Lib.hid hK
  go_wp2_with (fail)
  refine (few_any w1 _ n c xs (hX0.out.kept hK.out)).mono ?_; rintro e w' ⟨rfl, rfl⟩
  rw [hm.out]
  clear hm hX0
  go_wp2_with (fail)
  refine (M.new_nil w1).mono ?_; rintro e w2 ⟨rfl, hM, hK2, hs⟩
  have hB : w.heap.size ≤ w1.heap.size := hK.out.size
  replace hK := Lib.hid (hK.out.trans hK2)
  replace hM := Lib.hid hM
  generalize w1.heap.size = B at *
  clear hK2 hs
  go_wp2_with (fail)
  refine (M.place_zero hM.out _ _ _ _ (hX.out.kept hK.out) (by simp)).mono ?_; rintro e w3 ⟨rfl, hM3, hB3⟩
  replace hM := Lib.hid hM3
  replace hK := Lib.hid (hK.out.thenBut hB3 hB)
  clear hM3 hB3
  go_wp2_with (fail)
  refine (M.setW_any hM.out 0 x (by omega) (by omega) x0 x1).mono ?_; rintro e w4 ⟨rfl, hM4, hB4⟩
  rw [(M.empty_at x).2.2.2.1] at hM4
  rw [(M.empty_at x).1]
  replace hM := Lib.hid hM4
  replace hK := Lib.hid (hK.out.thenBut hB4 hB)
  clear hM4 hB4
  go_wp2_with (fail)
  refine (M.setB_any hM.out 0 1 (by omega) (by omega) (by omega) (by omega)).mono ?_; rintro e w5 ⟨rfl, hM4, hB4⟩
  rw [(M.empty_at x).2.2.2.2.1] at hM4
  rw [(M.empty_at x).2.1]
  replace hM := Lib.hid hM4
  replace hK := Lib.hid (hK.out.thenBut hB4 hB)
  clear hM4 hB4
  go_wp2_with (fail)
  refine (M.setW_any hM.out 2 x (by omega) (by omega) x0 x1).mono ?_; rintro e w6 ⟨rfl, hM4, hB4⟩
  rw [(M.empty_at x).2.2.2.2.2] at hM4
  rw [(M.empty_at x).2.2.1]
  replace hM := Lib.hid hM4
  replace hK := Lib.hid (hK.out.thenBut hB4 hB)
  clear hM4 hB4
  go_wp2_with (fail)
  refine (M.words_any hM.out).mono ?_; rintro e w8 ⟨g, rfl, hg, hW8, hK8⟩
  replace hK := Lib.hid (hK.out.trans hK8)
  clear hK8 hW8
  go_wp2
  go_ret
  exact ⟨rfl, hK.out.below⟩
set_option maxRecDepth 100000 in
set_option maxHeartbeats 1000000 in
theorem walk_back_at (w : World) (A : Option Addr) (n c : Nat) (xs : List Int) (hX0 : Hid (Ws w A n c xs)) (m : Nat) (hm : Hid (min n 12 = m)) (ws : List Int) (hX : Hid (Ws w A m c ws)) (hm12 : m ≤ 12) (x : Int) (x0 : 0 ≤ x) (x1 : x < 4294967296) (a : Int) (a0 : 0 ≤ a) (a1 : a ≤ 65535) (h0 : 0 < m) (k : Nat) (hk : a % (4 * (m : Int)) = k) (hk4 : k < 4 * m) (ws1 : List Int) (e1 : Hid (M.setB ws k (x % 256) = ws1)) (e2 : Hid (M.byte ws1 k = x % 256)) (e3 : Hid (M.bt ws k = 0)) (e4 : Hid (M.bt ws1 k = 0)) (hl1 : ws1.length = m)
    (e5 : Hid (∀ i j : Nat, i < m → j < 4 → ∃ y0 y1 : Int, ws[i]? = some y0 ∧ ws1[i]? = some y1 ∧ M.byte ws1 (4 * i + j) = y1 / 2 ^ (8 * j) % 256 ∧ M.bt ws1 (4 * i + j) = 0 ∧ (4 * i + j ≠ k → y1 / 2 ^ (8 * j) % 256 = y0 / 2 ^ (8 * j) % 256)))
    (p : Nat) (hp : (k : Int) / 4 * 4 = p) (ws2 : List Int) (q : Nat)
    (e6 : Hid (M.setW ws1 p x = ws2 ∧ M.wt ws1 p = 0 ∧ M.word ws2 p = x ∧ M.wt ws2 p = 0 ∧ ws2.length = m ∧ ∀ i : Nat, i < m → ∃ y1 y2 : Int, ws1[i]? = some y1 ∧ ws2[i]? = some y2 ∧ (i ≠ q → y2 = y1)))
    (e7 : Hid (IntKind.u32.wrap ((p : Int) / 4) = q ∧ IntKind.i64.wrap (q : Int) = q)) :
    Calls Try.prog 4 #[.slice A n c, .int .u16 a, .int .u32 x] w fun e w' => e = .returned (.bool true) ∧ Below w.heap.size w w' := by
  have hl := hX.out.len
  have h00 : ((m : Int) == 0) = false := by simp; omega
  have h01 : ¬ (m : Int) = 0 := by omega
  obtain ⟨b, off, hA⟩ : ∃ b off, A = some ⟨b, off, none⟩ := by
    cases A with
    | none => have := hX.out.nil rfl; have := hX.out.le; omega
    | some ad => obtain ⟨b, off, rfl⟩ := hX.out.addr h0; exact ⟨b, off, rfl⟩
  subst hA
  go_enter Try.func4, Try.ntmps4
  go_wp2_with (fail)
  refine (shown_any w).mono ?_; rintro e w1 ⟨rfl, hK⟩
  replace hK := Lib.hid hK
  go_wp2_with (fail)
  refine (few_any w1 _ n c xs (hX0.out.kept hK.out)).mono ?_; rintro e w' ⟨rfl, rfl⟩
  rw [hm.out]
  clear hm hX0
  go_wp2_with (fail)
  refine (M.new_yes m (by omega) w1).mono ?_; rintro e w2 ⟨rfl, hM, hK2, hs⟩
  have hB : w.heap.size ≤ w1.heap.size := hK.out.size
  replace hK := Lib.hid (hK.out.trans hK2)
  replace hM := Lib.hid hM
  generalize w1.heap.size = B at *
  clear hK2 hs
  go_wp2_with (fail)
  refine (M.place_zero hM.out _ _ _ _ (hX.out.kept hK.out) (by simp)).mono ?_; rintro e w3 ⟨rfl, hM3, hB3⟩
  replace hM := Lib.hid hM3
  replace hK := Lib.hid (hK.out.thenBut hB3 hB)
  clear hM3 hB3
  go_wp2_with (fail)
  refine (M.setB_any hM.out k (x % 256) (by omega) (by omega) (by omega) (by omega)).mono ?_; rintro e w4 ⟨rfl, hM4, hB4⟩
  clear hk
  rw [e1.out] at hM4
  rw [e3.out]
  replace hM := Lib.hid hM4
  replace hK := Lib.hid (hK.out.thenBut hB4 hB)
  clear hM4 hB4
  go_wp2_with (fail)
  refine (M.byte_any hM.out k (by omega) (by omega)).mono ?_; rintro e w5 ⟨rfl, hK5⟩
  rw [e2.out, e4.out]
  replace hM := Lib.hid (hM.out.kept hK5)
  replace hK := Lib.hid (hK.out.trans hK5)
  clear hK5
  go_wp2_with (fail)
  have hB6 := hM.out.lt
  refine (M.words_any hM.out).mono ?_; rintro e w6 ⟨g, rfl, hg, hW6, hK6⟩
  have hgB : Hid (B < g) := Nat.lt_of_lt_of_le hB6 hg
  rw [hl1] at hW6 ⊢
  replace hM := Lib.hid (hM.out.kept hK6)
  replace hK := Lib.hid (hK.out.trans hK6)
  replace hW6 := Lib.hid hW6
  clear hK6
  have d1 : (x % 256 != x % 256) = false := by simp
  go_wp2
  go_loopw [17] (fun i wr => ∃ j : Nat, j ≤ m ∧ i = .int .i64 j ∧ Kept w6 wr) (fun i _ => m - (intOf i).toNat)
  case atStart => exact ⟨0, Nat.zero_le _, rfl, Kept.refl _⟩
  case round =>
    obtain ⟨i, hi, rfl, hKr⟩ := hrel
    replace hKr := Lib.hid hKr
    by_cases d2 : i < m
    · have d3 : (i : Int) < m := by omega
      rename World => w7
      go_wp2
      go_loopw [18] (fun jv wr => ∃ j : Nat, j ≤ 4 ∧ jv = .int .i64 j ∧ Kept w6 wr) (fun i _ => 4 - (intOf i).toNat)
      case atStart => exact ⟨0, Nat.zero_le _, rfl, hKr.out⟩
      case round =>
        clear hKr
        obtain ⟨j, hj, rfl, hKr⟩ := hrel
        replace hKr := Lib.hid hKr
        by_cases d4 : j < 4
        · have d5 : (j : Int) < 4 := by omega
          have E := e5.out i j d2 d4
          obtain ⟨y0, y1, g0, g1, E1, E2, E3⟩ := E
          have c0 := ((hX.out.kept hK.out).kept hKr.out).cellAt i y0 g0
          have c1 := (hW6.out.kept hKr.out).cellAt i y1 g1
          rw [Nat.zero_add] at c1
          go_wp2_with (fail)
          refine (M.byte_any (hM.out.kept hKr.out) (4 * i + j) (by omega) (by omega)).mono ?_; rintro e w8 ⟨rfl, hK8⟩
          rw [E1, E2]
          replace c0 := (hK8.cell (p := ⟨b, off + i, none⟩) (World.block_lt_of_cell? _ _ c0)).trans c0
          replace c1 := (hK8.cell (p := ⟨g, i, none⟩) (World.block_lt_of_cell? _ _ c1)).trans c1
          replace hKr := Lib.hid (hKr.out.trans hK8)
          clear hK8 g0 g1 E1 E2
          replace E3 := Lib.hid E3
          have d6 : (y1 / 2 ^ (8 * j) % 256 != y1 / 2 ^ (8 * j) % 256) = false := by simp
          by_cases d7 : 4 * i + j = k
          · have d8 : ((4 * (i : Int) + j) != k) = false := by simp; omega
            have d9 : 4 * (i : Int) + j = k := by omega
            go_wp2
            go_roundw
            case rel => exact ⟨j + 1, by omega, by go_num, hKr.out⟩
            case measure => simp [intOf]; omega
          · have d8 : ((4 * (i : Int) + j) != k) = true := by simp; omega
            have d9 : ¬ 4 * (i : Int) + j = k := by omega
            have d10 : ((4 * (i : Int) + j) == k) = false := by simp; omega
            have E4 := E3.out d7
            have d11 : (y1 / 2 ^ (8 * j) % 256 != y0 / 2 ^ (8 * j) % 256) = false := by rw [E4]; simp
            clear E4
            go_wp2
            go_roundw
            case rel => exact ⟨j + 1, by omega, by go_num, hKr.out⟩
            case measure => simp [intOf]; omega
        · have d5 : ¬ (j : Int) < 4 := by omega
          go_wp2
          go_roundw
          case rel => exact ⟨i + 1, by omega, by go_num, hKr.out⟩
          case measure => simp [intOf]; omega
    · have d3 : ¬ (i : Int) < m := by omega
      replace hK := Lib.hid (hK.out.trans hKr.out)
      replace hM := Lib.hid (hM.out.kept hKr.out)
      replace hW6 := Lib.hid (hW6.out.kept hKr.out)
      have hgw : ∀ q, (some (⟨g, 0, none⟩ : Addr)) = some q → 0 < m → q.block ≠ B := by
        intro q hq _
        cases hq
        show g ≠ B
        have := hgB.out
        omega
      replace hgw := Lib.hid hgw
      clear hKr
      go_wp2_with (fail)
      refine (M.setW_any hM.out p x (by omega) (by omega) x0 x1).mono ?_; rintro e w8 ⟨rfl, hM8, hB8⟩
      rw [e6.out.1] at hM8
      rw [e6.out.2.1]
      replace hM := Lib.hid hM8
      replace hK := Lib.hid (hK.out.thenBut hB8 hB)
      replace hW6 := Lib.hid (hW6.out.but hB8 hgw.out)
      clear hM8 hB8
      go_wp2_with (fail)
      refine (M.word_any hM.out p (by omega) (by omega)).mono ?_; rintro e w' ⟨rfl, rfl⟩
      rw [e6.out.2.2.1, e6.out.2.2.2.1]
      go_wp2_with (fail)
      refine (M.words_any hM.out).mono ?_; rintro e w9 ⟨g2, rfl, hg2, hW9, hK9⟩
      rw [e6.out.2.2.2.2.1] at hW9 ⊢
      replace hK := Lib.hid (hK.out.trans hK9)
      replace hW6 := Lib.hid (hW6.out.kept hK9)
      replace hW9 := Lib.hid hW9
      clear hK9 hM
      have d20 : (x != x) = false := by simp
      clear hi d2 d3
      go_wp2
      go_loopw [27] (fun i wr => ∃ j : Nat, j ≤ m ∧ i = .int .i64 j ∧ Kept w9 wr) (fun i _ => m - (intOf i).toNat)
      case atStart => exact ⟨0, Nat.zero_le _, rfl, Kept.refl _⟩
      case round =>
        obtain ⟨i, hi, rfl, hKr⟩ := hrel
        replace hKr := Lib.hid hKr
        by_cases d2 : i < m
        · have d3 : (i : Int) < m := by omega
          obtain ⟨y1, y2, g1, g2', E⟩ := e6.out.2.2.2.2.2 i d2
          have c1 := (hW6.out.kept hKr.out).cellAt i y1 g1
          have c2 := (hW9.out.kept hKr.out).cellAt i y2 g2'
          rw [Nat.zero_add] at c1 c2
          replace E := Lib.hid E
          by_cases d7 : i = q
          · subst d7
            clear g1 g2'
            go_wp2
            have hq1 := e7.out.1
            have hq2 := e7.out.2
            refine WS.start 15 (by kernel_rfl) (by kernel_rfl) ?_
            intro w11 hw11
            replace hKr := Lib.hid (show Kept w9 w11 by rw [hw11]; exact hKr.out.drew)
            have c1' := (show w11.cell? ⟨g, i, none⟩ = wr.cell? ⟨g, i, none⟩ by rw [hw11]; rfl).trans c1
            have c2' := (show w11.cell? ⟨g2, i, none⟩ = wr.cell? ⟨g2, i, none⟩ by rw [hw11]; rfl).trans c2
            clear hw11 c1 c2
            simp only [List.take_succ_cons, List.take_zero, List.drop_succ_cons, List.drop_zero]
            iterate 6 (refine WS.step rfl (fun K hK => ?_); go_simp; refine hK _ ?_; clear hK K)
            clear hq1 hq2
            iterate 9 (refine WS.skip (by kernel_rfl) ?_; try simp only [Act.put, List.setIfInBounds_toArray, List.set_cons_zero, List.set_cons_succ])
            refine WS.nil ?_
            go_wp2
            go_roundw
            case rel => exact ⟨i + 1, by omega, by go_num, hKr.out⟩
            case measure => simp [intOf]; omega
          · have E1 := E.out d7
            subst E1
            have T1 : ((i : Int) == q) = false := beq_eq_false_iff_ne.2 (by omega)
            have T2 : ((i : Int) != q) = true := bne_iff_ne.2 (by omega)
            have T3 : ¬ (i : Int) = q := by omega
            clear g1 g2'
            go_wp2
            have hq1 := e7.out.1
            have hq2 := e7.out.2
            refine WS.start 15 (by kernel_rfl) (by kernel_rfl) ?_
            intro w11 hw11
            replace hKr := Lib.hid (show Kept w9 w11 by rw [hw11]; exact hKr.out.drew)
            have c1' := (show w11.cell? ⟨g, i, none⟩ = wr.cell? ⟨g, i, none⟩ by rw [hw11]; rfl).trans c1
            have c2' := (show w11.cell? ⟨g2, i, none⟩ = wr.cell? ⟨g2, i, none⟩ by rw [hw11]; rfl).trans c2
            clear hw11 c1 c2
            simp only [List.take_succ_cons, List.take_zero, List.drop_succ_cons, List.drop_zero]
            iterate 6 (refine WS.step rfl (fun K hK => ?_); go_simp; refine hK _ ?_; clear hK K)
            clear hq1 hq2
            iterate 9 (refine WS.want (by kernel_rfl) (fun K hK => ?_); go_simp; refine hK _ ?_; clear hK K)
            refine WS.nil ?_
            go_wp2
            go_roundw
            case rel => exact ⟨i + 1, by omega, by go_num, hKr.out⟩
            case measure => simp [intOf]; omega
        · have d3 : ¬ (i : Int) < m := by omega
          go_wp2
          go_ret
          exact ⟨rfl, (hK.out.trans hKr.out).below⟩
theorem walk_back (w : World) (A : Option Addr) (n c : Nat) (xs : List Int) (hx : Ws w A n c xs) (a : Int) (a0 : 0 ≤ a) (a1 : a ≤ 65535) (x : Int) (x0 : 0 ≤ x) (x1 : x < 4294967296) :
    Calls Try.prog 4 #[.slice A n c, .int .u16 a, .int .u32 x] w fun e w' => e = .returned (.bool true) ∧ Below w.heap.size w w' := by
  have hX := hx.take (min n 12) (by omega)
  obtain ⟨m, hm⟩ : ∃ m, min n 12 = m := ⟨_, rfl⟩
  have hm12 : m ≤ 12 := by omega
  rw [hm] at hX
  rcases Nat.eq_zero_or_pos m with h0 | h0
  · exact walk_back_none w A n c xs hx m hm _ hX hm12 x x0 x1 a a0 a1 h0
  · obtain ⟨ws, hws⟩ : ∃ ws, xs.take m = ws := ⟨_, rfl⟩
    rw [hws] at hX
    have hl := hX.len
    have hr := hX.rng
    clear hws
    have hk0 : 0 ≤ a % (4 * (m : Int)) := Int.emod_nonneg _ (by omega)
    have hk1 : a % (4 * (m : Int)) < 4 * m := Int.emod_lt_of_pos _ (by omega)
    obtain ⟨k, hk⟩ := Int.eq_ofNat_of_zero_le hk0
    have hk4 : k < 4 * m := by omega
    have hq : ((k : Int) / 4).toNat = k / 4 := by omega
    have hqm : k / 4 < ws.length := by omega
    have b0 : M.bt ws k = 0 := by unfold M.bt; rw [if_neg (by omega)]
    have hy := hr _ (List.getElem_mem hqm)
    have e1 : M.setB ws k (x % 256) = ws.set (k / 4) (M.mix ws[k / 4] k (x % 256)) := by
      unfold M.setB
      rw [if_pos b0, hq, show ws.getD (k / 4) 0 = ws[k / 4] by simp [hqm]]
    have hl1 : (M.setB ws k (x % 256)).length = m := by rw [e1, List.length_set, hl]
    obtain ⟨ws1, hws1⟩ : ∃ ws1, M.setB ws k (x % 256) = ws1 := ⟨_, rfl⟩
    rw [hws1] at e1 hl1
    have b1 : M.bt ws1 k = 0 := by unfold M.bt; rw [if_neg (by omega)]
    have at1 : ∀ i : Nat, (hi : i < m) → ws1[i]? = some (if i = k / 4 then M.mix (ws[i]'(by omega)) k (x % 256) else ws[i]'(by omega)) := by
      intro i hi
      have h1 : ws1[i]? = (ws.set (k / 4) (M.mix ws[k / 4] k (x % 256)))[i]? := by rw [← e1]
      refine h1.trans ?_
      rw [List.getElem?_set]
      by_cases c1 : k / 4 = i
      · subst c1
        rw [if_pos rfl, if_pos hqm, if_pos rfl]
      · rw [if_neg c1, if_neg (fun h => c1 h.symm), List.getElem?_eq_getElem (by omega)]
    have byteAt : ∀ i j : Nat, i < m → j < 4 → ∀ y1, ws1[i]? = some y1 → M.byte ws1 (4 * i + j) = y1 / 2 ^ (8 * j) % 256 ∧ M.bt ws1 (4 * i + j) = 0 := by
      intro i j hi hj y1 hy1
      have hb : M.bt ws1 (4 * i + j) = 0 := by unfold M.bt; rw [if_neg (by omega)]
      refine ⟨?_, hb⟩
      unfold M.byte
      rw [if_pos hb, show ((4 * (i : Int) + j) / 4).toNat = i by omega, show (8 * ((4 * (i : Int) + j) % 4)).toNat = 8 * j by omega, List.getD_eq_getElem?_getD, hy1]
      rfl
    have e2 : M.byte ws1 k = x % 256 := by
      have := (byteAt (k / 4) (k % 4) (by omega) (by omega) _ (at1 _ (by omega))).1
      rw [show (4 * ((k / 4 : Nat) : Int) + ((k % 4 : Nat) : Int)) = k by omega, if_pos rfl, M.mix_byte _ _ _ _ (by omega) (by omega) (by omega) (by omega) hy.1 hy.2, if_pos (by omega)] at this
      exact this
    have e5 : ∀ i j : Nat, i < m → j < 4 → ∃ y0 y1 : Int, ws[i]? = some y0 ∧ ws1[i]? = some y1 ∧ M.byte ws1 (4 * i + j) = y1 / 2 ^ (8 * j) % 256 ∧ M.bt ws1 (4 * i + j) = 0 ∧ (4 * i + j ≠ k → y1 / 2 ^ (8 * j) % 256 = y0 / 2 ^ (8 * j) % 256) := by
      intro i j hi hj
      refine ⟨ws[i], _, List.getElem?_eq_getElem _, at1 i hi, (byteAt i j hi hj _ (at1 i hi)).1, (byteAt i j hi hj _ (at1 i hi)).2, fun hne => ?_⟩
      by_cases c1 : i = k / 4
      · rw [if_pos c1]
        have hyi := hr _ (List.getElem_mem (show i < ws.length by omega))
        rw [M.mix_byte _ _ _ _ hj (by omega) (by omega) (by omega) hyi.1 hyi.2, if_neg (by omega)]
      · rw [if_neg c1]
    obtain ⟨p, hp⟩ : ∃ p : Nat, (k : Int) / 4 * 4 = p := ⟨k / 4 * 4, by omega⟩
    have hpq : ((p : Int) / 4).toNat = k / 4 := by omega
    have w1 : M.wt ws1 p = 0 := by unfold M.wt M.bt; rw [if_pos (by omega), if_neg (by omega)]
    have f1 : M.setW ws1 p x = ws1.set (k / 4) x := by unfold M.setW; rw [if_pos w1, hpq]
    have w2 : M.wt (ws1.set (k / 4) x) p = 0 := by unfold M.wt M.bt; rw [if_pos (by omega), List.length_set, if_neg (by omega)]
    have f2 : M.word (ws1.set (k / 4) x) p = x := by
      unfold M.word
      rw [if_pos w2, hpq, List.getD_eq_getElem?_getD, List.getElem?_set, if_pos rfl, if_pos (by omega)]
      rfl
    refine walk_back_at w A n c xs hx m hm ws hX hm12 x x0 x1 a a0 a1 h0 k hk hk4 ws1 hws1 e2 b0 b1 hl1 e5 p hp (ws1.set (k / 4) x) (k / 4) ⟨f1, w1, f2, w2, by rw [List.length_set]; exact hl1, fun i hi => ?_⟩ ?_
    · refine ⟨_, _, at1 i hi, List.getElem?_eq_getElem (by rw [List.length_set]; omega), fun hne => ?_⟩
      have := at1 i hi
      rw [List.getElem?_eq_getElem (by omega), Option.some.injEq] at this
      rw [List.getElem_set_ne (fun h => hne h.symm), this]
    · constructor
      · rw [IntWalk.u32_in _ ⟨by omega, by omega⟩]; omega
      · rw [IntKind.wrap_i64]; omega
end Go.Proofs.Ytkefggnocmmeoaa
