/-
  The walk of MemoryPlays.
-/
import Derived.Test.YtkefggnocmmeoaaRm1
import Derived.Deep.CutRange
namespace Go.Proofs.Ytkefggnocmmeoaa
open Go.RowKit
set_option linter.unusedVariables false
set_option linter.unusedSimpArgs false
/-- a call that came in, at a place of its slice -/
structure CallAt (w : World) (b o : Nat) (K a x : Int) (A : Option Addr) (n c : Nat) (xs : List Int) : Prop where
  kind : w.cell? ⟨b, o, none⟩ = some (.int .i64 K)
  at' : w.cell? ⟨b, o + 1, none⟩ = some (.int .u32 a)
  word : w.cell? ⟨b, o + 2, none⟩ = some (.int .u32 x)
  list : w.cell? ⟨b, o + 3, none⟩ = some (.slice A n c)
  ws : Ws w A n c xs
  a0 : 0 ≤ a
  a1 : a < 4294967296
  x0 : 0 ≤ x
  x1 : x < 4294967296
theorem CallAt.below {w w' : World} {b o : Nat} {K a x : Int} {A : Option Addr} {n c : Nat} {xs : List Int} (h : CallAt w b o K a x A n c xs) (hb : Below w.heap.size w w') : CallAt w' b o K a x A n c xs :=
  ⟨(hb.cell (World.block_lt_of_cell? _ _ h.kind)).trans h.kind, (hb.cell (World.block_lt_of_cell? _ _ h.at')).trans h.at', (hb.cell (World.block_lt_of_cell? _ _ h.word)).trans h.word, (hb.cell (World.block_lt_of_cell? _ _ h.list)).trans h.list,
    h.ws.below (w0 := w) (Nat.le_refl _) hb, h.a0, h.a1, h.x0, h.x1⟩
theorem wrap64_range (x : Int) : -9223372036854775808 ≤ wrap64 x ∧ wrap64 x ≤ 9223372036854775807 := by unfold wrap64; omega
set_option maxRecDepth 100000 in
set_option maxHeartbeats 2000000 in
theorem walk_plays_at (w : World) (v : Int) (kk : Nat) (hv : v % 32 = kk) (v0 : 0 ≤ v) (v1 : v ≤ 255) (hkk : kk ≤ 31) (d : Int) (d0 : -9223372036854775808 ≤ d) (d1 : d ≤ 9223372036854775807) (b off n c : Nat) (hn : 0 < n) (hnc : n ≤ 9223372036854775807)
    (hbw : b < w.heap.size)
    (hL : Hid (∀ i, i < n → ∃ K a x A m c xs, CallAt w b (off + i * 4) K a x A m c xs)) :
    Calls Try.prog 3 #[.int .u8 v, .int .i64 d, .slice (some ⟨b, off, none⟩) n c] w fun e w' => e = .returned (.bool true) ∧ Below w.heap.size w w' := by
  go_enter Try.func3, Try.ntmps3
  go_wp2_with (fail)
  refine (shown_any w).mono ?_; rintro e w1 ⟨rfl, hK⟩
  replace hK := Lib.hid hK
  go_wp2_with (fail)
  refine (M.new_yes kk (by omega) w1).mono ?_; rintro e w2 ⟨rfl, hM, hK2, hs2⟩
  have hB : w.heap.size ≤ w1.heap.size := hK.out.size
  replace hK := Lib.hid (hK.out.trans hK2)
  replace hM := Lib.hid hM
  generalize w1.heap.size = B at *
  clear hK2
  go_wp2_with (fail)
  refine (R.new_any kk (by omega) w2).mono ?_; rintro e w3 ⟨rfl, hR, hK3, hs3⟩
  replace hK := Lib.hid (hK.out.trans hK3)
  replace hM := Lib.hid (hM.out.kept hK3)
  replace hR := Lib.hid hR
  rw [hs2] at *
  clear hK3 hs2
  go_upto_region 4 with (fail)
  go_cut [46] from 41 to 46 (fun v wc => v = .bool (decide (0 ≤ d ∧ d ≤ 4096)) ∧ wc = w3)
  case first =>
    by_cases e1 : d < 0
    · have e2 : ¬ 0 ≤ d := by omega
      have e5 : decide (0 ≤ d) = false := decide_eq_false e2
      have e6 := Lib.hid (show Value.bool false = Value.bool (decide (0 ≤ d ∧ d ≤ 4096)) by rw [decide_eq_false (by omega)])
      go_wp2
      go_meet
      case rel => exact ⟨e6.out, by first | rfl | trivial⟩
    · have e2 : 0 ≤ d := by omega
      by_cases e3 : d ≤ 4096
      · have e6 := Lib.hid (show Value.bool true = Value.bool (decide (0 ≤ d ∧ d ≤ 4096)) by rw [decide_eq_true (by omega)])
        go_wp2
        go_meet
        case rel => exact ⟨e6.out, by first | rfl | trivial⟩
      · have e4 : decide (d ≤ 4096) = false := decide_eq_false e3
        have e6 := Lib.hid (show Value.bool false = Value.bool (decide (0 ≤ d ∧ d ≤ 4096)) by rw [decide_eq_false (by omega)])
        go_wp2
        go_meet
        case rel => exact ⟨e6.out, by first | rfl | trivial⟩
  obtain ⟨rfl, rfl⟩ := hcut
  go_upto_if 46 with (fail)
  go_cut [1] from 41 to 48 (fun v wc' => ∃ o : Int, v = .int .i64 o ∧ (o < 0 ∨ 4096 < o) ∧ -9223372036854775808 ≤ o ∧ o ≤ 9223372036854775807 ∧ wc' = wc)
  case first =>
    by_cases e1 : 0 ≤ d ∧ d ≤ 4096
    · rw [decide_eq_true e1]
      have e2 := e1.1
      have e3 := e1.2
      go_wp2
      go_meet
      case rel => exact ⟨-1 - d, rfl, by omega, by omega, by omega, by first | rfl | trivial⟩
    · rw [decide_eq_false e1]
      go_wp2
      go_meet
      case rel => exact ⟨d, rfl, by omega, d0, d1, by first | rfl | trivial⟩
  case rest =>
    obtain ⟨o, rfl, o1, o2, o3, rfl⟩ := hcut
    go_wp2_with (fail)
    refine (M.new_no o o1 _).mono ?_; rintro e w4 ⟨rfl, rfl⟩
    go_wp2
    go_loopw [14] (fun i wr => ∃ k : Nat, k ≤ n ∧ i = .int .i64 k ∧ ∃ ws, Mem B ws wr ∧ RMem (B + 1 + 1) (B + 1) ws wr ∧ Below w.heap.size w wr) (fun i _ => n - (intOf i).toNat)
    case atStart => exact ⟨0, Nat.zero_le _, rfl, _, hM.out, hR.out, hK.out.below⟩
    case round =>
      obtain ⟨k, hk, rfl, ws, hMr, hRr, hb⟩ := hrel
      clear hM hR hK
      have hbB : b ≠ B := by omega
      have hbC : b ≠ B + 1 := by omega
      by_cases f1 : k < n
      · have f2 : (k : Int) < n := by omega
        by_cases f3 : k < 30
        · have f4 : (k : Int) < 30 := by omega
          obtain ⟨K, a, x, A, m, cc, xs, hC⟩ := hL.out k f1
          have hCw : Hid (∀ ad, A = some ad → 0 < m → ad.block < w.heap.size) := fun ad e h => by subst e; exact hC.ws.lt h
          replace hC := hC.below hb
          have g0 := hC.kind
          have g1 := hC.at'
          have a0 := hC.a0
          have a1 := hC.a1
          replace hC := Lib.hid hC
          replace hMr := Lib.hid hMr
          replace hRr := Lib.hid hRr
          replace hb := Lib.hid hb
          go_upto_if 97 with (fail)
          go_cut [15] from 98 to 99 (fun v wc' => ∃ a' : Int, v = .int .u32 a' ∧ 0 ≤ a' ∧ a' < 4294967296 ∧ wc' = wr)
          case first =>
            by_cases e1 : bits .and .i64 K 8 = 0
            · go_wp2
              go_meet
              case rel => exact ⟨_, rfl, by omega, by omega, by first | rfl | trivial⟩
            · have e2 : (bits .and .i64 K 8 == 0) = false := beq_eq_false_iff_ne.2 e1
              go_wp2
              go_meet
              case rel => exact ⟨_, rfl, a0, a1, by first | rfl | trivial⟩
          clear a0 a1 g1
          obtain ⟨a', rfl, a0, a1, rfl⟩ := hcut
          go_upto_region 16 with (fail)
          go_cut [105] from 100 to 104 (fun v wc'' => v = .int .i64 (bits .and .i64 K 7) ∧ wc'' = wc)
          case first =>
            go_wp2
            go_meet
            case rel => exact ⟨rfl, by first | rfl | trivial⟩
          obtain ⟨rfl, rfl⟩ := hcut
          clear g0
          generalize bits .and .i64 K 7 = q at *
          go_step
          go_cut [16] from 106 to 214 (fun v wc' => v = .bool true ∧ ∃ ws', Mem B ws' wc' ∧ RMem (B + 1 + 1) (B + 1) ws' wc' ∧ Below w.heap.size w wc')
          case first =>
            by_cases q0 : q = 0
            · subst q0
              go_wp2_with (fail)
              refine (M.word_any hMr.out a' a0 a1).mono ?_; rintro e w4 ⟨rfl, rfl⟩
              go_wp2_with (fail)
              refine (R.word_any hRr.out a' a0 a1).mono ?_; rintro e w5 ⟨rfl, hK5⟩
              generalize M.word ws a' = vw
              generalize M.wt ws a' = tw
              replace hMr := Lib.hid (hMr.out.kept hK5)
              replace hRr := Lib.hid (hRr.out.kept hK5)
              replace hb := Lib.hid (below_kept hb.out hK5 hb.out.size)
              clear hK5 hC
              go_wp2
              go_meet
              case rel => exact ⟨by first | rfl | simp, ws, hMr.out, hRr.out, hb.out⟩
            by_cases q1 : q = 1
            · subst q1
              go_wp2_with (fail)
              refine (M.word_any hMr.out a' a0 a1).mono ?_; rintro e w4 ⟨rfl, rfl⟩
              go_wp2_with (fail)
              refine (R.word_any hRr.out a' a0 a1).mono ?_; rintro e w5 ⟨rfl, hK5⟩
              generalize M.word ws a' = vw
              generalize M.wt ws a' = tw
              replace hMr := Lib.hid (hMr.out.kept hK5)
              replace hRr := Lib.hid (hRr.out.kept hK5)
              replace hb := Lib.hid (below_kept hb.out hK5 hb.out.size)
              clear hK5 hC
              go_wp2
              go_meet
              case rel => exact ⟨by first | rfl | simp, ws, hMr.out, hRr.out, hb.out⟩
            by_cases q2 : q = 2
            · subst q2
              go_wp2_with (fail)
              refine (M.byte_any hMr.out a' a0 a1).mono ?_; rintro e w4 ⟨rfl, hK5⟩
              replace hMr := Lib.hid (hMr.out.kept hK5)
              replace hRr := Lib.hid (hRr.out.kept hK5)
              replace hb := Lib.hid (below_kept hb.out hK5 hb.out.size)
              clear hK5 hC
              go_wp2_with (fail)
              refine (R.byte_any hRr.out a' a0 a1).mono ?_; rintro e w5 ⟨rfl, rfl⟩
              generalize M.byte ws a' = vw
              generalize M.bt ws a' = tw
              go_wp2
              go_meet
              case rel => exact ⟨by first | rfl | simp, ws, hMr.out, hRr.out, hb.out⟩
            by_cases q3 : q = 3
            · subst q3
              go_wp2_with (fail)
              refine (M.byte_any hMr.out a' a0 a1).mono ?_; rintro e w4 ⟨rfl, hK5⟩
              replace hMr := Lib.hid (hMr.out.kept hK5)
              replace hRr := Lib.hid (hRr.out.kept hK5)
              replace hb := Lib.hid (below_kept hb.out hK5 hb.out.size)
              clear hK5 hC
              go_wp2_with (fail)
              refine (R.byte_any hRr.out a' a0 a1).mono ?_; rintro e w5 ⟨rfl, rfl⟩
              generalize M.byte ws a' = vw
              generalize M.bt ws a' = tw
              go_wp2
              go_meet
              case rel => exact ⟨by first | rfl | simp, ws, hMr.out, hRr.out, hb.out⟩
            by_cases q4 : q = 4
            · subst q4
              go_wp2
              have hMd := Lib.hid (show Mem B ws wc.drew from hMr.out.drew)
              have hRd := Lib.hid (hRr.out.kept (Kept.refl wc).drew)
              have hbd2 := Lib.hid (show Below w.heap.size w wc.drew from hb.out.drew)
              have hbd : b < wc.drew.heap.size := Nat.lt_of_lt_of_le hbw hb.out.size
              have x0 := hC.out.x0
              have x1 := hC.out.x1
              have hS0 := hC.out.word
              clear hMr hRr hb hC
              refine wp_region_held_drew (S := fun (wz : World) => World.cell? wz ⟨b, off + k * 4 + 2, none⟩ = some (Value.int .u32 x)) (by kernel_rfl) ?_ (fun hHeld => ?_)
              · exact hS0
              refine wpAnyH_take (i := 0) (oi := { dst := some 177, op := Op.move (Operand.tmp 8), type := 24, pos := "law.go:59", after := #[], guard := none }) (v := ?_) rfl (by kernel_rfl) (by kernel_rfl) (by kernel_rfl) (fun _ _ _ h => h) (Or.inl ⟨rfl, ?_⟩) hHeld ?_
              rotate_left
              · (intro wz hSw; (try dsimp only at hSw); go_simp; try with_reducible rfl)
              try simp only [Act.put, List.setIfInBounds_toArray, List.set_cons_zero, List.set_cons_succ]
              refine wpAnyH_take (i := 1) (oi := { dst := some 178, op := Op.move (Operand.tmp 15), type := 31, pos := "law.go:59", after := #[], guard := none }) (v := ?_) rfl (by kernel_rfl) (by kernel_rfl) (by kernel_rfl) (fun _ _ _ h => h) (Or.inl ⟨rfl, ?_⟩) hHeld ?_
              rotate_left
              · (intro wz hSw; (try dsimp only at hSw); go_simp; try with_reducible rfl)
              try simp only [Act.put, List.setIfInBounds_toArray, List.set_cons_zero, List.set_cons_succ]
              refine wpAnyH_take (i := 2) (oi := { dst := some 179, op := Op.move (Operand.tmp 2), type := 22, pos := "law.go:59", after := #[], guard := none }) (v := ?_) rfl (by kernel_rfl) (by kernel_rfl) (by kernel_rfl) (fun _ _ _ h => h) (Or.inl ⟨rfl, ?_⟩) hHeld ?_
              rotate_left
              · (intro wz hSw; (try dsimp only at hSw); go_simp; try with_reducible rfl)
              try simp only [Act.put, List.setIfInBounds_toArray, List.set_cons_zero, List.set_cons_succ]
              refine wpAnyH_take (i := 3) (oi := { dst := some 180, op := Op.move (Operand.tmp 14), type := 3, pos := "law.go:59", after := #[], guard := none }) (v := ?_) rfl (by kernel_rfl) (by kernel_rfl) (by kernel_rfl) (fun _ _ _ h => h) (Or.inl ⟨rfl, ?_⟩) hHeld ?_
              rotate_left
              · (intro wz hSw; (try dsimp only at hSw); go_simp; try with_reducible rfl)
              try simp only [Act.put, List.setIfInBounds_toArray, List.set_cons_zero, List.set_cons_succ]
              refine wpAnyH_take (i := 4) (oi := { dst := some 181, op := Op.indexAddr 22 (Operand.tmp 179) (Operand.tmp 180), type := 0, pos := "law.go:59", after := #[{ on := 2, ground := Ground.data }, { on := 3, ground := Ground.data }], guard := none }) (v := ?_) rfl (by kernel_rfl) (by kernel_rfl) (by kernel_rfl) (fun _ _ _ h => h) (Or.inl ⟨rfl, ?_⟩) hHeld ?_
              rotate_left
              · (intro wz hSw; (try dsimp only at hSw); go_simp; try with_reducible rfl)
              try simp only [Act.put, List.setIfInBounds_toArray, List.set_cons_zero, List.set_cons_succ]
              refine wpAnyH_take (i := 5) (oi := { dst := some 182, op := Op.fieldAddr 34 (Operand.tmp 181) 2, type := 0, pos := "law.go:59", after := #[{ on := 4, ground := Ground.data }], guard := none }) (v := ?_) rfl (by kernel_rfl) (by kernel_rfl) (by kernel_rfl) (fun _ _ _ h => h) (Or.inl ⟨rfl, ?_⟩) hHeld ?_
              rotate_left
              · (intro wz hSw; (try dsimp only at hSw); go_simp; try with_reducible rfl)
              try simp only [Act.put, List.setIfInBounds_toArray, List.set_cons_zero, List.set_cons_succ]
              refine wpAnyH_take (i := 6) (oi := { dst := some 183, op := Op.load 31 (Operand.tmp 182), type := 31, pos := "law.go:59", after := #[{ on := 5, ground := Ground.data }], guard := none }) (v := ?_) rfl (by kernel_rfl) (by kernel_rfl) (by kernel_rfl) (fun _ _ _ h => h) (Or.inl ⟨rfl, ?_⟩) hHeld ?_
              rotate_left
              · (intro wz hSw; (try dsimp only at hSw); go_simp; try with_reducible rfl)
              try simp only [Act.put, List.setIfInBounds_toArray, List.set_cons_zero, List.set_cons_succ]
              refine wpAnyH_take (i := 8) (oi := { dst := some 185, op := Op.move (Operand.tmp 10), type := 28, pos := "law.go:59", after := #[], guard := none }) (v := ?_) rfl (by kernel_rfl) (by kernel_rfl) (by kernel_rfl) (fun _ _ _ h => h) (Or.inl ⟨rfl, ?_⟩) hHeld ?_
              rotate_left
              · (intro wz hSw; (try dsimp only at hSw); go_simp; try with_reducible rfl)
              try simp only [Act.put, List.setIfInBounds_toArray, List.set_cons_zero, List.set_cons_succ]
              refine wpAnyH_take (i := 9) (oi := { dst := some 186, op := Op.move (Operand.tmp 15), type := 31, pos := "law.go:59", after := #[], guard := none }) (v := ?_) rfl (by kernel_rfl) (by kernel_rfl) (by kernel_rfl) (fun _ _ _ h => h) (Or.inl ⟨rfl, ?_⟩) hHeld ?_
              rotate_left
              · (intro wz hSw; (try dsimp only at hSw); go_simp; try with_reducible rfl)
              try simp only [Act.put, List.setIfInBounds_toArray, List.set_cons_zero, List.set_cons_succ]
              refine wpAnyH_take (i := 10) (oi := { dst := some 187, op := Op.move (Operand.tmp 2), type := 22, pos := "law.go:59", after := #[], guard := none }) (v := ?_) rfl (by kernel_rfl) (by kernel_rfl) (by kernel_rfl) (fun _ _ _ h => h) (Or.inl ⟨rfl, ?_⟩) hHeld ?_
              rotate_left
              · (intro wz hSw; (try dsimp only at hSw); go_simp; try with_reducible rfl)
              try simp only [Act.put, List.setIfInBounds_toArray, List.set_cons_zero, List.set_cons_succ]
              refine wpAnyH_take (i := 11) (oi := { dst := some 188, op := Op.move (Operand.tmp 14), type := 3, pos := "law.go:59", after := #[], guard := none }) (v := ?_) rfl (by kernel_rfl) (by kernel_rfl) (by kernel_rfl) (fun _ _ _ h => h) (Or.inl ⟨rfl, ?_⟩) hHeld ?_
              rotate_left
              · (intro wz hSw; (try dsimp only at hSw); go_simp; try with_reducible rfl)
              try simp only [Act.put, List.setIfInBounds_toArray, List.set_cons_zero, List.set_cons_succ]
              refine wpAnyH_take (i := 12) (oi := { dst := some 189, op := Op.indexAddr 22 (Operand.tmp 187) (Operand.tmp 188), type := 0, pos := "law.go:59", after := #[{ on := 10, ground := Ground.data }, { on := 11, ground := Ground.data }], guard := none }) (v := ?_) rfl (by kernel_rfl) (by kernel_rfl) (by kernel_rfl) (fun _ _ _ h => h) (Or.inl ⟨rfl, ?_⟩) hHeld ?_
              rotate_left
              · (intro wz hSw; (try dsimp only at hSw); go_simp; try with_reducible rfl)
              try simp only [Act.put, List.setIfInBounds_toArray, List.set_cons_zero, List.set_cons_succ]
              refine wpAnyH_take (i := 13) (oi := { dst := some 190, op := Op.fieldAddr 34 (Operand.tmp 189) 2, type := 0, pos := "law.go:59", after := #[{ on := 12, ground := Ground.data }], guard := none }) (v := ?_) rfl (by kernel_rfl) (by kernel_rfl) (by kernel_rfl) (fun _ _ _ h => h) (Or.inl ⟨rfl, ?_⟩) hHeld ?_
              rotate_left
              · (intro wz hSw; (try dsimp only at hSw); go_simp; try with_reducible rfl)
              try simp only [Act.put, List.setIfInBounds_toArray, List.set_cons_zero, List.set_cons_succ]
              refine wpAnyH_take (i := 14) (oi := { dst := some 191, op := Op.load 31 (Operand.tmp 190), type := 31, pos := "law.go:59", after := #[{ on := 13, ground := Ground.data }], guard := none }) (v := ?_) rfl (by kernel_rfl) (by kernel_rfl) (by kernel_rfl) (fun _ _ _ h => h) (Or.inl ⟨rfl, ?_⟩) hHeld ?_
              rotate_left
              · (intro wz hSw; (try dsimp only at hSw); go_simp; try with_reducible rfl)
              try simp only [Act.put, List.setIfInBounds_toArray, List.set_cons_zero, List.set_cons_succ]
              refine wpAnyH_ready (rs := [7]) (by kernel_rfl) (by simp) ?_
              refine AllReadyH.cons (o := { dst := some 184, op := Op.call { callee := Callee.value (Operand.func 15), args := #[Operand.tmp 177, Operand.tmp 178, Operand.tmp 183], argTypes := #[24, 31, 31] }, type := 3, pos := "law.go:59", after := #[{ on := 0, ground := Ground.data }, { on := 1, ground := Ground.data }, { on := 6, ground := Ground.data }], guard := none }) rfl (fun K hK => ?_) (AllReadyH.nil)
              go_simp
              go_at_call 15
              refine (M.setW_any hMd.out a' x a0 a1 x0 x1).mono ?_
              rintro e wd ⟨rfl, hM2, hB2⟩
              have hN := (show (fun (wz : World) => World.cell? wz ⟨b, off + k * 4 + 2, none⟩ = some (Value.int .u32 x)) _ from (World.cell?_of_block (w := wc.drew) (hB2.block b hbd hbB)).trans hHeld)
              clear hHeld
              refine hK.out _ _ hN (fun hHeld => ?_)
              clear hK K hN
              try simp only [Act.put, List.setIfInBounds_toArray, List.set_cons_zero, List.set_cons_succ]
              refine wpAnyH_ready (rs := [15]) (by kernel_rfl) (by simp) ?_
              refine AllReadyH.cons (o := { dst := some 192, op := Op.call { callee := Callee.value (Operand.func 16), args := #[Operand.tmp 185, Operand.tmp 186, Operand.tmp 191], argTypes := #[28, 31, 31] }, type := 3, pos := "law.go:59", after := #[{ on := 8, ground := Ground.data }, { on := 9, ground := Ground.data }, { on := 14, ground := Ground.data }, { on := 7, ground := Ground.chain }], guard := none }) rfl (fun K hK => ?_) (AllReadyH.nil)
              have hR2 := hRd.out.but hB2 (by omega) (by omega)
              have hsz : b < wd.heap.size := Nat.lt_of_lt_of_le hbd hB2.size
              go_simp
              go_at_call 16
              refine (R.setW_any hR2 a' x a0 a1 x0 x1).mono ?_
              rintro e we ⟨rfl, hR3, hB3⟩
              have hN := (show (fun (wz : World) => World.cell? wz ⟨b, off + k * 4 + 2, none⟩ = some (Value.int .u32 x)) _ from (World.cell?_of_block (w := wd) (hB3.block b hsz hbC)).trans hHeld)
              clear hHeld
              refine hK.out _ _ hN (fun hHeld => ?_)
              clear hK K hN
              try simp only [Act.put, List.setIfInBounds_toArray, List.set_cons_zero, List.set_cons_succ]
              refine wpAnyH_take (i := 16) (oi := { dst := some 193, op := Op.binOp BinOp.eql 3 (Operand.tmp 184) (Operand.tmp 192) 3, type := 4, pos := "law.go:59", after := #[{ on := 7, ground := Ground.data }, { on := 15, ground := Ground.data }], guard := none }) (v := ?_) rfl (by kernel_rfl) (by kernel_rfl) (by kernel_rfl) (fun _ _ _ h => h) (Or.inl ⟨rfl, ?_⟩) hHeld ?_
              rotate_left
              · (intro wz hSw; (try dsimp only at hSw); go_simp; try with_reducible rfl)
              try simp only [Act.put, List.setIfInBounds_toArray, List.set_cons_zero, List.set_cons_succ]
              refine wpAnyH_take (i := 17) (oi := { dst := some 16, op := Op.assign (Operand.tmp 193), type := 4, pos := "law.go:59", after := #[{ on := 16, ground := Ground.data }, { on := 15, ground := Ground.chain }, { on := 0, ground := Ground.phase }, { on := 1, ground := Ground.phase }, { on := 2, ground := Ground.phase }, { on := 3, ground := Ground.phase }, { on := 4, ground := Ground.phase }, { on := 5, ground := Ground.phase }, { on := 6, ground := Ground.phase }, { on := 7, ground := Ground.phase }, { on := 8, ground := Ground.phase }, { on := 9, ground := Ground.phase }, { on := 10, ground := Ground.phase }, { on := 11, ground := Ground.phase }, { on := 12, ground := Ground.phase }, { on := 13, ground := Ground.phase }, { on := 14, ground := Ground.phase }, { on := 15, ground := Ground.phase }, { on := 16, ground := Ground.phase }], guard := none }) (v := ?_) rfl (by kernel_rfl) (by kernel_rfl) (by kernel_rfl) (fun _ _ _ h => h) (Or.inl ⟨rfl, ?_⟩) hHeld ?_
              rotate_left
              · (intro wz hSw; (try dsimp only at hSw); go_simp; try with_reducible rfl)
              try simp only [Act.put, List.setIfInBounds_toArray, List.set_cons_zero, List.set_cons_succ]
              refine wpAnyH_done (by kernel_rfl) ?_ _
              have hM3 := Lib.hid (hM2.but hB3 (by omega))
              replace hR3 := Lib.hid hR3
              have hb3 := Lib.hid (below_but (below_but hbd2.out hB2 (by omega) hbd2.out.size) hB3 (by omega) (Nat.le_trans hbd2.out.size hB2.size))
              clear hM2 hB2 hB3 hR2 hHeld hMd hRd hbd2 hsz
              generalize M.wt ws a' = tw at *
              go_wp2
              go_meet
              case rel => exact ⟨by first | rfl | simp, _, hM3.out, hR3.out, hb3.out⟩
            by_cases q5 : q = 5
            · subst q5
              go_wp2
              have hMd := Lib.hid (show Mem B ws wc.drew from hMr.out.drew)
              have hRd := Lib.hid (hRr.out.kept (Kept.refl wc).drew)
              have hbd2 := Lib.hid (show Below w.heap.size w wc.drew from hb.out.drew)
              have hbd : b < wc.drew.heap.size := Nat.lt_of_lt_of_le hbw hb.out.size
              have x0 := hC.out.x0
              have x1 := hC.out.x1
              have hS0 := hC.out.word
              clear hMr hRr hb hC
              refine wp_region_held_drew (S := fun (wz : World) => World.cell? wz ⟨b, off + k * 4 + 2, none⟩ = some (Value.int .u32 x)) (by kernel_rfl) ?_ (fun hHeld => ?_)
              · exact hS0
              refine wpAnyH_take (i := 0) (oi := { dst := some 177, op := Op.move (Operand.tmp 8), type := 24, pos := "law.go:59", after := #[], guard := none }) (v := ?_) rfl (by kernel_rfl) (by kernel_rfl) (by kernel_rfl) (fun _ _ _ h => h) (Or.inl ⟨rfl, ?_⟩) hHeld ?_
              rotate_left
              · (intro wz hSw; (try dsimp only at hSw); go_simp; try with_reducible rfl)
              try simp only [Act.put, List.setIfInBounds_toArray, List.set_cons_zero, List.set_cons_succ]
              refine wpAnyH_take (i := 1) (oi := { dst := some 178, op := Op.move (Operand.tmp 15), type := 31, pos := "law.go:59", after := #[], guard := none }) (v := ?_) rfl (by kernel_rfl) (by kernel_rfl) (by kernel_rfl) (fun _ _ _ h => h) (Or.inl ⟨rfl, ?_⟩) hHeld ?_
              rotate_left
              · (intro wz hSw; (try dsimp only at hSw); go_simp; try with_reducible rfl)
              try simp only [Act.put, List.setIfInBounds_toArray, List.set_cons_zero, List.set_cons_succ]
              refine wpAnyH_take (i := 2) (oi := { dst := some 179, op := Op.move (Operand.tmp 2), type := 22, pos := "law.go:59", after := #[], guard := none }) (v := ?_) rfl (by kernel_rfl) (by kernel_rfl) (by kernel_rfl) (fun _ _ _ h => h) (Or.inl ⟨rfl, ?_⟩) hHeld ?_
              rotate_left
              · (intro wz hSw; (try dsimp only at hSw); go_simp; try with_reducible rfl)
              try simp only [Act.put, List.setIfInBounds_toArray, List.set_cons_zero, List.set_cons_succ]
              refine wpAnyH_take (i := 3) (oi := { dst := some 180, op := Op.move (Operand.tmp 14), type := 3, pos := "law.go:59", after := #[], guard := none }) (v := ?_) rfl (by kernel_rfl) (by kernel_rfl) (by kernel_rfl) (fun _ _ _ h => h) (Or.inl ⟨rfl, ?_⟩) hHeld ?_
              rotate_left
              · (intro wz hSw; (try dsimp only at hSw); go_simp; try with_reducible rfl)
              try simp only [Act.put, List.setIfInBounds_toArray, List.set_cons_zero, List.set_cons_succ]
              refine wpAnyH_take (i := 4) (oi := { dst := some 181, op := Op.indexAddr 22 (Operand.tmp 179) (Operand.tmp 180), type := 0, pos := "law.go:59", after := #[{ on := 2, ground := Ground.data }, { on := 3, ground := Ground.data }], guard := none }) (v := ?_) rfl (by kernel_rfl) (by kernel_rfl) (by kernel_rfl) (fun _ _ _ h => h) (Or.inl ⟨rfl, ?_⟩) hHeld ?_
              rotate_left
              · (intro wz hSw; (try dsimp only at hSw); go_simp; try with_reducible rfl)
              try simp only [Act.put, List.setIfInBounds_toArray, List.set_cons_zero, List.set_cons_succ]
              refine wpAnyH_take (i := 5) (oi := { dst := some 182, op := Op.fieldAddr 34 (Operand.tmp 181) 2, type := 0, pos := "law.go:59", after := #[{ on := 4, ground := Ground.data }], guard := none }) (v := ?_) rfl (by kernel_rfl) (by kernel_rfl) (by kernel_rfl) (fun _ _ _ h => h) (Or.inl ⟨rfl, ?_⟩) hHeld ?_
              rotate_left
              · (intro wz hSw; (try dsimp only at hSw); go_simp; try with_reducible rfl)
              try simp only [Act.put, List.setIfInBounds_toArray, List.set_cons_zero, List.set_cons_succ]
              refine wpAnyH_take (i := 6) (oi := { dst := some 183, op := Op.load 31 (Operand.tmp 182), type := 31, pos := "law.go:59", after := #[{ on := 5, ground := Ground.data }], guard := none }) (v := ?_) rfl (by kernel_rfl) (by kernel_rfl) (by kernel_rfl) (fun _ _ _ h => h) (Or.inl ⟨rfl, ?_⟩) hHeld ?_
              rotate_left
              · (intro wz hSw; (try dsimp only at hSw); go_simp; try with_reducible rfl)
              try simp only [Act.put, List.setIfInBounds_toArray, List.set_cons_zero, List.set_cons_succ]
              refine wpAnyH_take (i := 8) (oi := { dst := some 185, op := Op.move (Operand.tmp 10), type := 28, pos := "law.go:59", after := #[], guard := none }) (v := ?_) rfl (by kernel_rfl) (by kernel_rfl) (by kernel_rfl) (fun _ _ _ h => h) (Or.inl ⟨rfl, ?_⟩) hHeld ?_
              rotate_left
              · (intro wz hSw; (try dsimp only at hSw); go_simp; try with_reducible rfl)
              try simp only [Act.put, List.setIfInBounds_toArray, List.set_cons_zero, List.set_cons_succ]
              refine wpAnyH_take (i := 9) (oi := { dst := some 186, op := Op.move (Operand.tmp 15), type := 31, pos := "law.go:59", after := #[], guard := none }) (v := ?_) rfl (by kernel_rfl) (by kernel_rfl) (by kernel_rfl) (fun _ _ _ h => h) (Or.inl ⟨rfl, ?_⟩) hHeld ?_
              rotate_left
              · (intro wz hSw; (try dsimp only at hSw); go_simp; try with_reducible rfl)
              try simp only [Act.put, List.setIfInBounds_toArray, List.set_cons_zero, List.set_cons_succ]
              refine wpAnyH_take (i := 10) (oi := { dst := some 187, op := Op.move (Operand.tmp 2), type := 22, pos := "law.go:59", after := #[], guard := none }) (v := ?_) rfl (by kernel_rfl) (by kernel_rfl) (by kernel_rfl) (fun _ _ _ h => h) (Or.inl ⟨rfl, ?_⟩) hHeld ?_
              rotate_left
              · (intro wz hSw; (try dsimp only at hSw); go_simp; try with_reducible rfl)
              try simp only [Act.put, List.setIfInBounds_toArray, List.set_cons_zero, List.set_cons_succ]
              refine wpAnyH_take (i := 11) (oi := { dst := some 188, op := Op.move (Operand.tmp 14), type := 3, pos := "law.go:59", after := #[], guard := none }) (v := ?_) rfl (by kernel_rfl) (by kernel_rfl) (by kernel_rfl) (fun _ _ _ h => h) (Or.inl ⟨rfl, ?_⟩) hHeld ?_
              rotate_left
              · (intro wz hSw; (try dsimp only at hSw); go_simp; try with_reducible rfl)
              try simp only [Act.put, List.setIfInBounds_toArray, List.set_cons_zero, List.set_cons_succ]
              refine wpAnyH_take (i := 12) (oi := { dst := some 189, op := Op.indexAddr 22 (Operand.tmp 187) (Operand.tmp 188), type := 0, pos := "law.go:59", after := #[{ on := 10, ground := Ground.data }, { on := 11, ground := Ground.data }], guard := none }) (v := ?_) rfl (by kernel_rfl) (by kernel_rfl) (by kernel_rfl) (fun _ _ _ h => h) (Or.inl ⟨rfl, ?_⟩) hHeld ?_
              rotate_left
              · (intro wz hSw; (try dsimp only at hSw); go_simp; try with_reducible rfl)
              try simp only [Act.put, List.setIfInBounds_toArray, List.set_cons_zero, List.set_cons_succ]
              refine wpAnyH_take (i := 13) (oi := { dst := some 190, op := Op.fieldAddr 34 (Operand.tmp 189) 2, type := 0, pos := "law.go:59", after := #[{ on := 12, ground := Ground.data }], guard := none }) (v := ?_) rfl (by kernel_rfl) (by kernel_rfl) (by kernel_rfl) (fun _ _ _ h => h) (Or.inl ⟨rfl, ?_⟩) hHeld ?_
              rotate_left
              · (intro wz hSw; (try dsimp only at hSw); go_simp; try with_reducible rfl)
              try simp only [Act.put, List.setIfInBounds_toArray, List.set_cons_zero, List.set_cons_succ]
              refine wpAnyH_take (i := 14) (oi := { dst := some 191, op := Op.load 31 (Operand.tmp 190), type := 31, pos := "law.go:59", after := #[{ on := 13, ground := Ground.data }], guard := none }) (v := ?_) rfl (by kernel_rfl) (by kernel_rfl) (by kernel_rfl) (fun _ _ _ h => h) (Or.inl ⟨rfl, ?_⟩) hHeld ?_
              rotate_left
              · (intro wz hSw; (try dsimp only at hSw); go_simp; try with_reducible rfl)
              try simp only [Act.put, List.setIfInBounds_toArray, List.set_cons_zero, List.set_cons_succ]
              refine wpAnyH_ready (rs := [7]) (by kernel_rfl) (by simp) ?_
              refine AllReadyH.cons (o := { dst := some 184, op := Op.call { callee := Callee.value (Operand.func 15), args := #[Operand.tmp 177, Operand.tmp 178, Operand.tmp 183], argTypes := #[24, 31, 31] }, type := 3, pos := "law.go:59", after := #[{ on := 0, ground := Ground.data }, { on := 1, ground := Ground.data }, { on := 6, ground := Ground.data }], guard := none }) rfl (fun K hK => ?_) (AllReadyH.nil)
              go_simp
              go_at_call 15
              refine (M.setW_any hMd.out a' x a0 a1 x0 x1).mono ?_
              rintro e wd ⟨rfl, hM2, hB2⟩
              have hN := (show (fun (wz : World) => World.cell? wz ⟨b, off + k * 4 + 2, none⟩ = some (Value.int .u32 x)) _ from (World.cell?_of_block (w := wc.drew) (hB2.block b hbd hbB)).trans hHeld)
              clear hHeld
              refine hK.out _ _ hN (fun hHeld => ?_)
              clear hK K hN
              try simp only [Act.put, List.setIfInBounds_toArray, List.set_cons_zero, List.set_cons_succ]
              refine wpAnyH_ready (rs := [15]) (by kernel_rfl) (by simp) ?_
              refine AllReadyH.cons (o := { dst := some 192, op := Op.call { callee := Callee.value (Operand.func 16), args := #[Operand.tmp 185, Operand.tmp 186, Operand.tmp 191], argTypes := #[28, 31, 31] }, type := 3, pos := "law.go:59", after := #[{ on := 8, ground := Ground.data }, { on := 9, ground := Ground.data }, { on := 14, ground := Ground.data }, { on := 7, ground := Ground.chain }], guard := none }) rfl (fun K hK => ?_) (AllReadyH.nil)
              have hR2 := hRd.out.but hB2 (by omega) (by omega)
              have hsz : b < wd.heap.size := Nat.lt_of_lt_of_le hbd hB2.size
              go_simp
              go_at_call 16
              refine (R.setW_any hR2 a' x a0 a1 x0 x1).mono ?_
              rintro e we ⟨rfl, hR3, hB3⟩
              have hN := (show (fun (wz : World) => World.cell? wz ⟨b, off + k * 4 + 2, none⟩ = some (Value.int .u32 x)) _ from (World.cell?_of_block (w := wd) (hB3.block b hsz hbC)).trans hHeld)
              clear hHeld
              refine hK.out _ _ hN (fun hHeld => ?_)
              clear hK K hN
              try simp only [Act.put, List.setIfInBounds_toArray, List.set_cons_zero, List.set_cons_succ]
              refine wpAnyH_take (i := 16) (oi := { dst := some 193, op := Op.binOp BinOp.eql 3 (Operand.tmp 184) (Operand.tmp 192) 3, type := 4, pos := "law.go:59", after := #[{ on := 7, ground := Ground.data }, { on := 15, ground := Ground.data }], guard := none }) (v := ?_) rfl (by kernel_rfl) (by kernel_rfl) (by kernel_rfl) (fun _ _ _ h => h) (Or.inl ⟨rfl, ?_⟩) hHeld ?_
              rotate_left
              · (intro wz hSw; (try dsimp only at hSw); go_simp; try with_reducible rfl)
              try simp only [Act.put, List.setIfInBounds_toArray, List.set_cons_zero, List.set_cons_succ]
              refine wpAnyH_take (i := 17) (oi := { dst := some 16, op := Op.assign (Operand.tmp 193), type := 4, pos := "law.go:59", after := #[{ on := 16, ground := Ground.data }, { on := 15, ground := Ground.chain }, { on := 0, ground := Ground.phase }, { on := 1, ground := Ground.phase }, { on := 2, ground := Ground.phase }, { on := 3, ground := Ground.phase }, { on := 4, ground := Ground.phase }, { on := 5, ground := Ground.phase }, { on := 6, ground := Ground.phase }, { on := 7, ground := Ground.phase }, { on := 8, ground := Ground.phase }, { on := 9, ground := Ground.phase }, { on := 10, ground := Ground.phase }, { on := 11, ground := Ground.phase }, { on := 12, ground := Ground.phase }, { on := 13, ground := Ground.phase }, { on := 14, ground := Ground.phase }, { on := 15, ground := Ground.phase }, { on := 16, ground := Ground.phase }], guard := none }) (v := ?_) rfl (by kernel_rfl) (by kernel_rfl) (by kernel_rfl) (fun _ _ _ h => h) (Or.inl ⟨rfl, ?_⟩) hHeld ?_
              rotate_left
              · (intro wz hSw; (try dsimp only at hSw); go_simp; try with_reducible rfl)
              try simp only [Act.put, List.setIfInBounds_toArray, List.set_cons_zero, List.set_cons_succ]
              refine wpAnyH_done (by kernel_rfl) ?_ _
              have hM3 := Lib.hid (hM2.but hB3 (by omega))
              replace hR3 := Lib.hid hR3
              have hb3 := Lib.hid (below_but (below_but hbd2.out hB2 (by omega) hbd2.out.size) hB3 (by omega) (Nat.le_trans hbd2.out.size hB2.size))
              clear hM2 hB2 hB3 hR2 hHeld hMd hRd hbd2 hsz
              generalize M.wt ws a' = tw at *
              go_wp2
              go_meet
              case rel => exact ⟨by first | rfl | simp, _, hM3.out, hR3.out, hb3.out⟩
            by_cases q6 : q = 6
            · subst q6
              go_wp2
              have hMd := Lib.hid (show Mem B ws wc.drew from hMr.out.drew)
              have hRd := Lib.hid (hRr.out.kept (Kept.refl wc).drew)
              have hbd2 := Lib.hid (show Below w.heap.size w wc.drew from hb.out.drew)
              have hbd : b < wc.drew.heap.size := Nat.lt_of_lt_of_le hbw hb.out.size
              have x0 := hC.out.x0
              have x1 := hC.out.x1
              have hS0 := hC.out.word
              clear hMr hRr hb hC
              refine wp_region_held_drew (S := fun (wz : World) => World.cell? wz ⟨b, off + k * 4 + 2, none⟩ = some (Value.int .u32 x)) (by kernel_rfl) ?_ (fun hHeld => ?_)
              · exact hS0
              refine wpAnyH_take (i := 0) (oi := { dst := some 196, op := Op.move (Operand.tmp 8), type := 24, pos := "law.go:61", after := #[], guard := none }) (v := ?_) rfl (by kernel_rfl) (by kernel_rfl) (by kernel_rfl) (fun _ _ _ h => h) (Or.inl ⟨rfl, ?_⟩) hHeld ?_
              rotate_left
              · (intro wz hSw; (try dsimp only at hSw); go_simp; try with_reducible rfl)
              try simp only [Act.put, List.setIfInBounds_toArray, List.set_cons_zero, List.set_cons_succ]
              refine wpAnyH_take (i := 1) (oi := { dst := some 197, op := Op.move (Operand.tmp 15), type := 31, pos := "law.go:61", after := #[], guard := none }) (v := ?_) rfl (by kernel_rfl) (by kernel_rfl) (by kernel_rfl) (fun _ _ _ h => h) (Or.inl ⟨rfl, ?_⟩) hHeld ?_
              rotate_left
              · (intro wz hSw; (try dsimp only at hSw); go_simp; try with_reducible rfl)
              try simp only [Act.put, List.setIfInBounds_toArray, List.set_cons_zero, List.set_cons_succ]
              refine wpAnyH_take (i := 2) (oi := { dst := some 198, op := Op.move (Operand.tmp 2), type := 22, pos := "law.go:61", after := #[], guard := none }) (v := ?_) rfl (by kernel_rfl) (by kernel_rfl) (by kernel_rfl) (fun _ _ _ h => h) (Or.inl ⟨rfl, ?_⟩) hHeld ?_
              rotate_left
              · (intro wz hSw; (try dsimp only at hSw); go_simp; try with_reducible rfl)
              try simp only [Act.put, List.setIfInBounds_toArray, List.set_cons_zero, List.set_cons_succ]
              refine wpAnyH_take (i := 3) (oi := { dst := some 199, op := Op.move (Operand.tmp 14), type := 3, pos := "law.go:61", after := #[], guard := none }) (v := ?_) rfl (by kernel_rfl) (by kernel_rfl) (by kernel_rfl) (fun _ _ _ h => h) (Or.inl ⟨rfl, ?_⟩) hHeld ?_
              rotate_left
              · (intro wz hSw; (try dsimp only at hSw); go_simp; try with_reducible rfl)
              try simp only [Act.put, List.setIfInBounds_toArray, List.set_cons_zero, List.set_cons_succ]
              refine wpAnyH_take (i := 4) (oi := { dst := some 200, op := Op.indexAddr 22 (Operand.tmp 198) (Operand.tmp 199), type := 0, pos := "law.go:61", after := #[{ on := 2, ground := Ground.data }, { on := 3, ground := Ground.data }], guard := none }) (v := ?_) rfl (by kernel_rfl) (by kernel_rfl) (by kernel_rfl) (fun _ _ _ h => h) (Or.inl ⟨rfl, ?_⟩) hHeld ?_
              rotate_left
              · (intro wz hSw; (try dsimp only at hSw); go_simp; try with_reducible rfl)
              try simp only [Act.put, List.setIfInBounds_toArray, List.set_cons_zero, List.set_cons_succ]
              refine wpAnyH_take (i := 5) (oi := { dst := some 201, op := Op.fieldAddr 34 (Operand.tmp 200) 2, type := 0, pos := "law.go:61", after := #[{ on := 4, ground := Ground.data }], guard := none }) (v := ?_) rfl (by kernel_rfl) (by kernel_rfl) (by kernel_rfl) (fun _ _ _ h => h) (Or.inl ⟨rfl, ?_⟩) hHeld ?_
              rotate_left
              · (intro wz hSw; (try dsimp only at hSw); go_simp; try with_reducible rfl)
              try simp only [Act.put, List.setIfInBounds_toArray, List.set_cons_zero, List.set_cons_succ]
              refine wpAnyH_take (i := 6) (oi := { dst := some 202, op := Op.load 31 (Operand.tmp 201), type := 31, pos := "law.go:61", after := #[{ on := 5, ground := Ground.data }], guard := none }) (v := ?_) rfl (by kernel_rfl) (by kernel_rfl) (by kernel_rfl) (fun _ _ _ h => h) (Or.inl ⟨rfl, ?_⟩) hHeld ?_
              rotate_left
              · (intro wz hSw; (try dsimp only at hSw); go_simp; try with_reducible rfl)
              try simp only [Act.put, List.setIfInBounds_toArray, List.set_cons_zero, List.set_cons_succ]
              refine wpAnyH_take (i := 7) (oi := { dst := some 203, op := Op.convert 31 5 (Operand.tmp 202), type := 5, pos := "law.go:61", after := #[{ on := 6, ground := Ground.data }], guard := none }) (v := ?_) rfl (by kernel_rfl) (by kernel_rfl) (by kernel_rfl) (fun _ _ _ h => h) (Or.inl ⟨rfl, ?_⟩) hHeld ?_
              rotate_left
              · (intro wz hSw; (try dsimp only at hSw); go_simp; try with_reducible rfl)
              try simp only [Act.put, List.setIfInBounds_toArray, List.set_cons_zero, List.set_cons_succ]
              refine wpAnyH_take (i := 9) (oi := { dst := some 205, op := Op.move (Operand.tmp 10), type := 28, pos := "law.go:61", after := #[], guard := none }) (v := ?_) rfl (by kernel_rfl) (by kernel_rfl) (by kernel_rfl) (fun _ _ _ h => h) (Or.inl ⟨rfl, ?_⟩) hHeld ?_
              rotate_left
              · (intro wz hSw; (try dsimp only at hSw); go_simp; try with_reducible rfl)
              try simp only [Act.put, List.setIfInBounds_toArray, List.set_cons_zero, List.set_cons_succ]
              refine wpAnyH_take (i := 10) (oi := { dst := some 206, op := Op.move (Operand.tmp 15), type := 31, pos := "law.go:61", after := #[], guard := none }) (v := ?_) rfl (by kernel_rfl) (by kernel_rfl) (by kernel_rfl) (fun _ _ _ h => h) (Or.inl ⟨rfl, ?_⟩) hHeld ?_
              rotate_left
              · (intro wz hSw; (try dsimp only at hSw); go_simp; try with_reducible rfl)
              try simp only [Act.put, List.setIfInBounds_toArray, List.set_cons_zero, List.set_cons_succ]
              refine wpAnyH_take (i := 11) (oi := { dst := some 207, op := Op.move (Operand.tmp 2), type := 22, pos := "law.go:61", after := #[], guard := none }) (v := ?_) rfl (by kernel_rfl) (by kernel_rfl) (by kernel_rfl) (fun _ _ _ h => h) (Or.inl ⟨rfl, ?_⟩) hHeld ?_
              rotate_left
              · (intro wz hSw; (try dsimp only at hSw); go_simp; try with_reducible rfl)
              try simp only [Act.put, List.setIfInBounds_toArray, List.set_cons_zero, List.set_cons_succ]
              refine wpAnyH_take (i := 12) (oi := { dst := some 208, op := Op.move (Operand.tmp 14), type := 3, pos := "law.go:61", after := #[], guard := none }) (v := ?_) rfl (by kernel_rfl) (by kernel_rfl) (by kernel_rfl) (fun _ _ _ h => h) (Or.inl ⟨rfl, ?_⟩) hHeld ?_
              rotate_left
              · (intro wz hSw; (try dsimp only at hSw); go_simp; try with_reducible rfl)
              try simp only [Act.put, List.setIfInBounds_toArray, List.set_cons_zero, List.set_cons_succ]
              refine wpAnyH_take (i := 13) (oi := { dst := some 209, op := Op.indexAddr 22 (Operand.tmp 207) (Operand.tmp 208), type := 0, pos := "law.go:61", after := #[{ on := 11, ground := Ground.data }, { on := 12, ground := Ground.data }], guard := none }) (v := ?_) rfl (by kernel_rfl) (by kernel_rfl) (by kernel_rfl) (fun _ _ _ h => h) (Or.inl ⟨rfl, ?_⟩) hHeld ?_
              rotate_left
              · (intro wz hSw; (try dsimp only at hSw); go_simp; try with_reducible rfl)
              try simp only [Act.put, List.setIfInBounds_toArray, List.set_cons_zero, List.set_cons_succ]
              refine wpAnyH_take (i := 14) (oi := { dst := some 210, op := Op.fieldAddr 34 (Operand.tmp 209) 2, type := 0, pos := "law.go:61", after := #[{ on := 13, ground := Ground.data }], guard := none }) (v := ?_) rfl (by kernel_rfl) (by kernel_rfl) (by kernel_rfl) (fun _ _ _ h => h) (Or.inl ⟨rfl, ?_⟩) hHeld ?_
              rotate_left
              · (intro wz hSw; (try dsimp only at hSw); go_simp; try with_reducible rfl)
              try simp only [Act.put, List.setIfInBounds_toArray, List.set_cons_zero, List.set_cons_succ]
              refine wpAnyH_take (i := 15) (oi := { dst := some 211, op := Op.load 31 (Operand.tmp 210), type := 31, pos := "law.go:61", after := #[{ on := 14, ground := Ground.data }], guard := none }) (v := ?_) rfl (by kernel_rfl) (by kernel_rfl) (by kernel_rfl) (fun _ _ _ h => h) (Or.inl ⟨rfl, ?_⟩) hHeld ?_
              rotate_left
              · (intro wz hSw; (try dsimp only at hSw); go_simp; try with_reducible rfl)
              try simp only [Act.put, List.setIfInBounds_toArray, List.set_cons_zero, List.set_cons_succ]
              refine wpAnyH_take (i := 16) (oi := { dst := some 212, op := Op.convert 31 5 (Operand.tmp 211), type := 5, pos := "law.go:61", after := #[{ on := 15, ground := Ground.data }], guard := none }) (v := ?_) rfl (by kernel_rfl) (by kernel_rfl) (by kernel_rfl) (fun _ _ _ h => h) (Or.inl ⟨rfl, ?_⟩) hHeld ?_
              rotate_left
              · (intro wz hSw; (try dsimp only at hSw); go_simp; try with_reducible rfl)
              try simp only [Act.put, List.setIfInBounds_toArray, List.set_cons_zero, List.set_cons_succ]
              refine wpAnyH_ready (rs := [8]) (by kernel_rfl) (by simp) ?_
              refine AllReadyH.cons (o := { dst := some 204, op := Op.call { callee := Callee.value (Operand.func 17), args := #[Operand.tmp 196, Operand.tmp 197, Operand.tmp 203], argTypes := #[24, 31, 5] }, type := 3, pos := "law.go:61", after := #[{ on := 0, ground := Ground.data }, { on := 1, ground := Ground.data }, { on := 7, ground := Ground.data }], guard := none }) rfl (fun K hK => ?_) (AllReadyH.nil)
              go_simp
              go_at_call 17
              refine (M.setB_any hMd.out a' (x % 256) a0 a1 (by omega) (by omega)).mono ?_
              rintro e wd ⟨rfl, hM2, hB2⟩
              have hN := (show (fun (wz : World) => World.cell? wz ⟨b, off + k * 4 + 2, none⟩ = some (Value.int .u32 x)) _ from (World.cell?_of_block (w := wc.drew) (hB2.block b hbd hbB)).trans hHeld)
              clear hHeld
              refine hK.out _ _ hN (fun hHeld => ?_)
              clear hK K hN
              try simp only [Act.put, List.setIfInBounds_toArray, List.set_cons_zero, List.set_cons_succ]
              refine wpAnyH_ready (rs := [17]) (by kernel_rfl) (by simp) ?_
              refine AllReadyH.cons (o := { dst := some 213, op := Op.call { callee := Callee.value (Operand.func 18), args := #[Operand.tmp 205, Operand.tmp 206, Operand.tmp 212], argTypes := #[28, 31, 5] }, type := 3, pos := "law.go:61", after := #[{ on := 9, ground := Ground.data }, { on := 10, ground := Ground.data }, { on := 16, ground := Ground.data }, { on := 8, ground := Ground.chain }], guard := none }) rfl (fun K hK => ?_) (AllReadyH.nil)
              have hR2 := hRd.out.but hB2 (by omega) (by omega)
              have hsz : b < wd.heap.size := Nat.lt_of_lt_of_le hbd hB2.size
              go_simp
              go_at_call 18
              refine (R.setB_any hR2 a' (x % 256) a0 a1 (by omega) (by omega)).mono ?_
              rintro e we ⟨rfl, hR3, hB3⟩
              have hN := (show (fun (wz : World) => World.cell? wz ⟨b, off + k * 4 + 2, none⟩ = some (Value.int .u32 x)) _ from (World.cell?_of_block (w := wd) (hB3.block b hsz hbC)).trans hHeld)
              clear hHeld
              refine hK.out _ _ hN (fun hHeld => ?_)
              clear hK K hN
              try simp only [Act.put, List.setIfInBounds_toArray, List.set_cons_zero, List.set_cons_succ]
              refine wpAnyH_take (i := 18) (oi := { dst := some 214, op := Op.binOp BinOp.eql 3 (Operand.tmp 204) (Operand.tmp 213) 3, type := 4, pos := "law.go:61", after := #[{ on := 8, ground := Ground.data }, { on := 17, ground := Ground.data }], guard := none }) (v := ?_) rfl (by kernel_rfl) (by kernel_rfl) (by kernel_rfl) (fun _ _ _ h => h) (Or.inl ⟨rfl, ?_⟩) hHeld ?_
              rotate_left
              · (intro wz hSw; (try dsimp only at hSw); go_simp; try with_reducible rfl)
              try simp only [Act.put, List.setIfInBounds_toArray, List.set_cons_zero, List.set_cons_succ]
              refine wpAnyH_take (i := 19) (oi := { dst := some 16, op := Op.assign (Operand.tmp 214), type := 4, pos := "law.go:61", after := #[{ on := 18, ground := Ground.data }, { on := 17, ground := Ground.chain }, { on := 0, ground := Ground.phase }, { on := 1, ground := Ground.phase }, { on := 2, ground := Ground.phase }, { on := 3, ground := Ground.phase }, { on := 4, ground := Ground.phase }, { on := 5, ground := Ground.phase }, { on := 6, ground := Ground.phase }, { on := 7, ground := Ground.phase }, { on := 8, ground := Ground.phase }, { on := 9, ground := Ground.phase }, { on := 10, ground := Ground.phase }, { on := 11, ground := Ground.phase }, { on := 12, ground := Ground.phase }, { on := 13, ground := Ground.phase }, { on := 14, ground := Ground.phase }, { on := 15, ground := Ground.phase }, { on := 16, ground := Ground.phase }, { on := 17, ground := Ground.phase }, { on := 18, ground := Ground.phase }], guard := none }) (v := ?_) rfl (by kernel_rfl) (by kernel_rfl) (by kernel_rfl) (fun _ _ _ h => h) (Or.inl ⟨rfl, ?_⟩) hHeld ?_
              rotate_left
              · (intro wz hSw; (try dsimp only at hSw); go_simp; try with_reducible rfl)
              try simp only [Act.put, List.setIfInBounds_toArray, List.set_cons_zero, List.set_cons_succ]
              refine wpAnyH_done (by kernel_rfl) ?_ _
              have hM3 := Lib.hid (hM2.but hB3 (by omega))
              replace hR3 := Lib.hid hR3
              have hb3 := Lib.hid (below_but (below_but hbd2.out hB2 (by omega) hbd2.out.size) hB3 (by omega) (Nat.le_trans hbd2.out.size hB2.size))
              clear hM2 hB2 hB3 hR2 hHeld hMd hRd hbd2 hsz
              generalize M.bt ws a' = tw at *
              go_wp2
              go_meet
              case rel => exact ⟨by first | rfl | simp, _, hM3.out, hR3.out, hb3.out⟩
            have t0 : (q == 0) = false := beq_eq_false_iff_ne.2 q0
            have t1 : (q == 1) = false := beq_eq_false_iff_ne.2 q1
            have t2 : (q == 2) = false := beq_eq_false_iff_ne.2 q2
            have t3 : (q == 3) = false := beq_eq_false_iff_ne.2 q3
            have t4 : (q == 4) = false := beq_eq_false_iff_ne.2 q4
            have t5 : (q == 5) = false := beq_eq_false_iff_ne.2 q5
            have t6 : (q == 6) = false := beq_eq_false_iff_ne.2 q6
            go_upto_region 18 with (fail)
            have pr := wrap64_range (wrap32 a')
            generalize wrap64 (wrap32 a') = p at *
            obtain ⟨m', hm⟩ : ∃ m', min m 12 = m' := ⟨_, rfl⟩
            have hmm : m' ≤ m := by omega
            have hm12 : m' ≤ 12 := by omega
            have hWx := Lib.hid hC.out.ws
            have hWy := Lib.hid (hC.out.ws.take m' hmm)
            have hWb : Hid (∀ ad, A = some ad → 0 < m → ad.block < w.heap.size) := hCw.out
            replace hm := Lib.hid hm
            have hMd := Lib.hid (show Mem B ws wc.drew from hMr.out.drew)
            have hRd := Lib.hid (hRr.out.kept (Kept.refl wc).drew)
            have hbd2 := Lib.hid (show Below w.heap.size w wc.drew from hb.out.drew)
            have hbd : b < wc.drew.heap.size := Nat.lt_of_lt_of_le hbw hb.out.size
            have hS0 := hC.out.list
            replace hWx := Lib.hid (show Ws wc.drew A m cc xs from hWx.out.drew)
            replace hWy := Lib.hid (show Ws wc.drew A m' cc (xs.take m') from hWy.out.drew)
            generalize hys : xs.take m' = ys at *
            clear hMr hRr hb hC hys hCw q0 q1 q2 q3 q4 q5 q6 t0 t1 t2 t3 t4 t5 t6
            by_cases hf : 0 ≤ p ∧ p + m' ≤ ws.length
            · obtain ⟨k', hk'⟩ := Int.eq_ofNat_of_zero_le hf.1
              subst hk'
              have hf2 : k' + m' ≤ ws.length := by omega
              clear hf pr
              refine wp_region_held_drew (S := fun (wz : World) => World.cell? wz ⟨b, off + k * 4 + 3, none⟩ = some (Value.slice A m cc)) (by kernel_rfl) ?_ (fun hHeld => ?_)
              · exact hS0
              refine wpAnyH_take (i := 0) (oi := { dst := some 109, op := Op.move (Operand.tmp 8), type := 24, pos := "law.go:64", after := #[], guard := none }) (v := ?_) rfl (by kernel_rfl) (by kernel_rfl) (by kernel_rfl) (fun _ _ _ h => h) (Or.inl ⟨rfl, ?_⟩) hHeld ?_
              rotate_left
              · (intro wz hSw; (try dsimp only at hSw); go_simp; try with_reducible rfl)
              try simp only [Act.put, List.setIfInBounds_toArray, List.set_cons_zero, List.set_cons_succ]
              refine wpAnyH_take (i := 1) (oi := { dst := some 110, op := Op.move (Operand.tmp 25), type := 3, pos := "law.go:64", after := #[], guard := none }) (v := ?_) rfl (by kernel_rfl) (by kernel_rfl) (by kernel_rfl) (fun _ _ _ h => h) (Or.inl ⟨rfl, ?_⟩) hHeld ?_
              rotate_left
              · (intro wz hSw; (try dsimp only at hSw); go_simp; try with_reducible rfl)
              try simp only [Act.put, List.setIfInBounds_toArray, List.set_cons_zero, List.set_cons_succ]
              refine wpAnyH_take (i := 2) (oi := { dst := some 111, op := Op.move (Operand.tmp 2), type := 22, pos := "law.go:64", after := #[], guard := none }) (v := ?_) rfl (by kernel_rfl) (by kernel_rfl) (by kernel_rfl) (fun _ _ _ h => h) (Or.inl ⟨rfl, ?_⟩) hHeld ?_
              rotate_left
              · (intro wz hSw; (try dsimp only at hSw); go_simp; try with_reducible rfl)
              try simp only [Act.put, List.setIfInBounds_toArray, List.set_cons_zero, List.set_cons_succ]
              refine wpAnyH_take (i := 3) (oi := { dst := some 112, op := Op.move (Operand.tmp 14), type := 3, pos := "law.go:64", after := #[], guard := none }) (v := ?_) rfl (by kernel_rfl) (by kernel_rfl) (by kernel_rfl) (fun _ _ _ h => h) (Or.inl ⟨rfl, ?_⟩) hHeld ?_
              rotate_left
              · (intro wz hSw; (try dsimp only at hSw); go_simp; try with_reducible rfl)
              try simp only [Act.put, List.setIfInBounds_toArray, List.set_cons_zero, List.set_cons_succ]
              refine wpAnyH_take (i := 4) (oi := { dst := some 113, op := Op.indexAddr 22 (Operand.tmp 111) (Operand.tmp 112), type := 0, pos := "law.go:64", after := #[{ on := 2, ground := Ground.data }, { on := 3, ground := Ground.data }], guard := none }) (v := ?_) rfl (by kernel_rfl) (by kernel_rfl) (by kernel_rfl) (fun _ _ _ h => h) (Or.inl ⟨rfl, ?_⟩) hHeld ?_
              rotate_left
              · (intro wz hSw; (try dsimp only at hSw); go_simp; try with_reducible rfl)
              try simp only [Act.put, List.setIfInBounds_toArray, List.set_cons_zero, List.set_cons_succ]
              refine wpAnyH_take (i := 5) (oi := { dst := some 114, op := Op.fieldAddr 34 (Operand.tmp 113) 3, type := 0, pos := "law.go:64", after := #[{ on := 4, ground := Ground.data }], guard := none }) (v := ?_) rfl (by kernel_rfl) (by kernel_rfl) (by kernel_rfl) (fun _ _ _ h => h) (Or.inl ⟨rfl, ?_⟩) hHeld ?_
              rotate_left
              · (intro wz hSw; (try dsimp only at hSw); go_simp; try with_reducible rfl)
              try simp only [Act.put, List.setIfInBounds_toArray, List.set_cons_zero, List.set_cons_succ]
              refine wpAnyH_take (i := 6) (oi := { dst := some 115, op := Op.load 32 (Operand.tmp 114), type := 32, pos := "law.go:64", after := #[{ on := 5, ground := Ground.data }], guard := none }) (v := ?_) rfl (by kernel_rfl) (by kernel_rfl) (by kernel_rfl) (fun _ _ _ h => h) (Or.inl ⟨rfl, ?_⟩) hHeld ?_
              rotate_left
              · (intro wz hSw; (try dsimp only at hSw); go_simp; try with_reducible rfl)
              try simp only [Act.put, List.setIfInBounds_toArray, List.set_cons_zero, List.set_cons_succ]
              refine wpAnyH_take (i := 9) (oi := { dst := some 118, op := Op.move (Operand.tmp 10), type := 28, pos := "law.go:64", after := #[], guard := none }) (v := ?_) rfl (by kernel_rfl) (by kernel_rfl) (by kernel_rfl) (fun _ _ _ h => h) (Or.inl ⟨rfl, ?_⟩) hHeld ?_
              rotate_left
              · (intro wz hSw; (try dsimp only at hSw); go_simp; try with_reducible rfl)
              try simp only [Act.put, List.setIfInBounds_toArray, List.set_cons_zero, List.set_cons_succ]
              refine wpAnyH_take (i := 10) (oi := { dst := some 119, op := Op.move (Operand.tmp 25), type := 3, pos := "law.go:64", after := #[], guard := none }) (v := ?_) rfl (by kernel_rfl) (by kernel_rfl) (by kernel_rfl) (fun _ _ _ h => h) (Or.inl ⟨rfl, ?_⟩) hHeld ?_
              rotate_left
              · (intro wz hSw; (try dsimp only at hSw); go_simp; try with_reducible rfl)
              try simp only [Act.put, List.setIfInBounds_toArray, List.set_cons_zero, List.set_cons_succ]
              refine wpAnyH_take (i := 11) (oi := { dst := some 120, op := Op.move (Operand.tmp 2), type := 22, pos := "law.go:64", after := #[], guard := none }) (v := ?_) rfl (by kernel_rfl) (by kernel_rfl) (by kernel_rfl) (fun _ _ _ h => h) (Or.inl ⟨rfl, ?_⟩) hHeld ?_
              rotate_left
              · (intro wz hSw; (try dsimp only at hSw); go_simp; try with_reducible rfl)
              try simp only [Act.put, List.setIfInBounds_toArray, List.set_cons_zero, List.set_cons_succ]
              refine wpAnyH_take (i := 12) (oi := { dst := some 121, op := Op.move (Operand.tmp 14), type := 3, pos := "law.go:64", after := #[], guard := none }) (v := ?_) rfl (by kernel_rfl) (by kernel_rfl) (by kernel_rfl) (fun _ _ _ h => h) (Or.inl ⟨rfl, ?_⟩) hHeld ?_
              rotate_left
              · (intro wz hSw; (try dsimp only at hSw); go_simp; try with_reducible rfl)
              try simp only [Act.put, List.setIfInBounds_toArray, List.set_cons_zero, List.set_cons_succ]
              refine wpAnyH_take (i := 13) (oi := { dst := some 122, op := Op.indexAddr 22 (Operand.tmp 120) (Operand.tmp 121), type := 0, pos := "law.go:64", after := #[{ on := 11, ground := Ground.data }, { on := 12, ground := Ground.data }], guard := none }) (v := ?_) rfl (by kernel_rfl) (by kernel_rfl) (by kernel_rfl) (fun _ _ _ h => h) (Or.inl ⟨rfl, ?_⟩) hHeld ?_
              rotate_left
              · (intro wz hSw; (try dsimp only at hSw); go_simp; try with_reducible rfl)
              try simp only [Act.put, List.setIfInBounds_toArray, List.set_cons_zero, List.set_cons_succ]
              refine wpAnyH_take (i := 14) (oi := { dst := some 123, op := Op.fieldAddr 34 (Operand.tmp 122) 3, type := 0, pos := "law.go:64", after := #[{ on := 13, ground := Ground.data }], guard := none }) (v := ?_) rfl (by kernel_rfl) (by kernel_rfl) (by kernel_rfl) (fun _ _ _ h => h) (Or.inl ⟨rfl, ?_⟩) hHeld ?_
              rotate_left
              · (intro wz hSw; (try dsimp only at hSw); go_simp; try with_reducible rfl)
              try simp only [Act.put, List.setIfInBounds_toArray, List.set_cons_zero, List.set_cons_succ]
              refine wpAnyH_take (i := 15) (oi := { dst := some 124, op := Op.load 32 (Operand.tmp 123), type := 32, pos := "law.go:64", after := #[{ on := 14, ground := Ground.data }], guard := none }) (v := ?_) rfl (by kernel_rfl) (by kernel_rfl) (by kernel_rfl) (fun _ _ _ h => h) (Or.inl ⟨rfl, ?_⟩) hHeld ?_
              rotate_left
              · (intro wz hSw; (try dsimp only at hSw); go_simp; try with_reducible rfl)
              try simp only [Act.put, List.setIfInBounds_toArray, List.set_cons_zero, List.set_cons_succ]
              refine wpAnyH_ready (rs := [7]) (by kernel_rfl) (by simp) ?_
              refine AllReadyH.cons (o := { dst := some 116, op := Op.call { callee := Callee.value (Operand.func 20), args := #[Operand.tmp 115], argTypes := #[32] }, type := 32, pos := "law.go:64", after := #[{ on := 6, ground := Ground.data }], guard := none }) rfl (fun K hK => ?_) (AllReadyH.nil)
              go_simp
              go_at_call 20
              refine (few_any _ A m cc xs hWx.out).mono ?_
              rintro e wf ⟨rfl, rfl⟩
              rw [hm.out]
              have hN := (show (fun (wz : World) => World.cell? wz ⟨b, off + k * 4 + 3, none⟩ = some (Value.slice A m cc)) _ from hHeld)
              clear hHeld
              refine hK.out _ _ hN (fun hHeld => ?_)
              clear hK K hN
              try simp only [Act.put, List.setIfInBounds_toArray, List.set_cons_zero, List.set_cons_succ]
              refine wpAnyH_ready (rs := [8]) (by kernel_rfl) (by simp) ?_
              refine AllReadyH.cons (o := { dst := some 117, op := Op.call { callee := Callee.value (Operand.func 19), args := #[Operand.tmp 109, Operand.tmp 110, Operand.tmp 116], argTypes := #[24, 3, 32] }, type := 25, pos := "law.go:64", after := #[{ on := 0, ground := Ground.data }, { on := 1, ground := Ground.data }, { on := 7, ground := Ground.data }, { on := 7, ground := Ground.chain }], guard := none }) rfl (fun K hK => ?_) (AllReadyH.nil)
              go_simp
              go_at_call 19
              refine (M.place_yes hMd.out k' A m' cc ys hWy.out hf2).mono ?_
              rintro e wd ⟨rfl, hM2, hB2⟩
              have hneB : ∀ ad, A = some ad → 0 < m → ad.block ≠ B := fun ad e h => by have := hWb.out ad e h; omega
              replace hWx := Lib.hid (hWx.out.but hB2 hneB)
              replace hWy := Lib.hid (hWy.out.but hB2 (fun ad e h => hneB ad e (by omega)))
              have hsz : b < wd.heap.size := Nat.lt_of_lt_of_le hbd hB2.size
              have hR2 := Lib.hid (hRd.out.but hB2 (by omega) (by omega))
              replace hM2 := Lib.hid hM2
              have hb2 := Lib.hid (below_but hbd2.out hB2 (by omega) hbd2.out.size)
              have hN := (show (fun (wz : World) => World.cell? wz ⟨b, off + k * 4 + 3, none⟩ = some (Value.slice A m cc)) _ from (World.cell?_of_block (w := wc.drew) (hB2.block b hbd hbB)).trans hHeld)
              clear hHeld
              refine hK.out _ _ hN (fun hHeld => ?_)
              clear hK K hN
              try simp only [Act.put, List.setIfInBounds_toArray, List.set_cons_zero, List.set_cons_succ]
              refine wpAnyH_ready (rs := [16]) (by kernel_rfl) (by simp) ?_
              refine AllReadyH.cons (o := { dst := some 125, op := Op.call { callee := Callee.value (Operand.func 20), args := #[Operand.tmp 124], argTypes := #[32] }, type := 32, pos := "law.go:64", after := #[{ on := 15, ground := Ground.data }, { on := 8, ground := Ground.chain }], guard := none }) rfl (fun K hK => ?_) (AllReadyH.nil)
              clear hB2 hneB
              go_simp
              go_at_call 20
              refine (few_any _ A m cc xs hWx.out).mono ?_
              rintro e wf ⟨rfl, rfl⟩
              rw [hm.out]
              have hN := (show (fun (wz : World) => World.cell? wz ⟨b, off + k * 4 + 3, none⟩ = some (Value.slice A m cc)) _ from hHeld)
              clear hHeld
              refine hK.out _ _ hN (fun hHeld => ?_)
              clear hK K hN
              try simp only [Act.put, List.setIfInBounds_toArray, List.set_cons_zero, List.set_cons_succ]
              refine wpAnyH_ready (rs := [17]) (by kernel_rfl) (by simp) ?_
              refine AllReadyH.cons (o := { dst := some 126, op := Op.call { callee := Callee.value (Operand.func 21), args := #[Operand.tmp 118, Operand.tmp 119, Operand.tmp 125], argTypes := #[28, 3, 32] }, type := 25, pos := "law.go:64", after := #[{ on := 9, ground := Ground.data }, { on := 10, ground := Ground.data }, { on := 16, ground := Ground.data }, { on := 16, ground := Ground.chain }], guard := none }) rfl (fun K hK => ?_) (AllReadyH.nil)
              go_simp
              go_at_call 21
              refine (R.place_yes hR2.out k' A m' cc ys hWy.out (fun ad e h => by have := hWb.out ad e (by omega); omega) hf2).mono ?_
              rintro e we ⟨rfl, hR3, hB3⟩
              have hN := (show (fun (wz : World) => World.cell? wz ⟨b, off + k * 4 + 3, none⟩ = some (Value.slice A m cc)) _ from (World.cell?_of_block (w := wd) (hB3.block b hsz hbC)).trans hHeld)
              clear hHeld
              refine hK.out _ _ hN (fun hHeld => ?_)
              clear hK K hN
              try simp only [Act.put, List.setIfInBounds_toArray, List.set_cons_zero, List.set_cons_succ]
              refine wpAnyH_take (i := 18) (oi := { dst := some 127, op := Op.binOp BinOp.eql 25 (Operand.tmp 117) (Operand.tmp 126) 25, type := 4, pos := "law.go:64", after := #[{ on := 8, ground := Ground.data }, { on := 17, ground := Ground.data }], guard := none }) (v := ?_) rfl (by kernel_rfl) (by kernel_rfl) (by kernel_rfl) (fun _ _ _ h => h) (Or.inl ⟨rfl, ?_⟩) hHeld ?_
              rotate_left
              · (intro wz hSw; (try dsimp only at hSw); go_simp; try with_reducible rfl)
              try simp only [Act.put, List.setIfInBounds_toArray, List.set_cons_zero, List.set_cons_succ]
              refine wpAnyH_take (i := 19) (oi := { dst := some 16, op := Op.assign (Operand.tmp 127), type := 4, pos := "law.go:64", after := #[{ on := 18, ground := Ground.data }, { on := 17, ground := Ground.chain }, { on := 0, ground := Ground.phase }, { on := 1, ground := Ground.phase }, { on := 2, ground := Ground.phase }, { on := 3, ground := Ground.phase }, { on := 4, ground := Ground.phase }, { on := 5, ground := Ground.phase }, { on := 6, ground := Ground.phase }, { on := 7, ground := Ground.phase }, { on := 8, ground := Ground.phase }, { on := 9, ground := Ground.phase }, { on := 10, ground := Ground.phase }, { on := 11, ground := Ground.phase }, { on := 12, ground := Ground.phase }, { on := 13, ground := Ground.phase }, { on := 14, ground := Ground.phase }, { on := 15, ground := Ground.phase }, { on := 16, ground := Ground.phase }, { on := 17, ground := Ground.phase }, { on := 18, ground := Ground.phase }], guard := none }) (v := ?_) rfl (by kernel_rfl) (by kernel_rfl) (by kernel_rfl) (fun _ _ _ h => h) (Or.inl ⟨rfl, ?_⟩) hHeld ?_
              rotate_left
              · (intro wz hSw; (try dsimp only at hSw); go_simp; try with_reducible rfl)
              try simp only [Act.put, List.setIfInBounds_toArray, List.set_cons_zero, List.set_cons_succ]
              refine wpAnyH_done (by kernel_rfl) ?_ _
              have hM3 := Lib.hid (hM2.out.but hB3 (by omega))
              replace hR3 := Lib.hid hR3
              have hb3 := Lib.hid (below_but hb2.out hB3 (by omega) hb2.out.size)
              clear hM2 hB3 hR2 hHeld hMd hRd hbd2 hsz hWx hWy
              go_wp2
              go_meet
              case rel => exact ⟨by first | rfl | simp, _, hM3.out, hR3.out, hb3.out⟩
            · have hf2 : p < 0 ∨ (ws.length : Int) < p + m' := by omega
              clear hf
              refine wp_region_held_drew (S := fun (wz : World) => World.cell? wz ⟨b, off + k * 4 + 3, none⟩ = some (Value.slice A m cc)) (by kernel_rfl) ?_ (fun hHeld => ?_)
              · exact hS0
              refine wpAnyH_take (i := 0) (oi := { dst := some 109, op := Op.move (Operand.tmp 8), type := 24, pos := "law.go:64", after := #[], guard := none }) (v := ?_) rfl (by kernel_rfl) (by kernel_rfl) (by kernel_rfl) (fun _ _ _ h => h) (Or.inl ⟨rfl, ?_⟩) hHeld ?_
              rotate_left
              · (intro wz hSw; (try dsimp only at hSw); go_simp; try with_reducible rfl)
              try simp only [Act.put, List.setIfInBounds_toArray, List.set_cons_zero, List.set_cons_succ]
              refine wpAnyH_take (i := 1) (oi := { dst := some 110, op := Op.move (Operand.tmp 25), type := 3, pos := "law.go:64", after := #[], guard := none }) (v := ?_) rfl (by kernel_rfl) (by kernel_rfl) (by kernel_rfl) (fun _ _ _ h => h) (Or.inl ⟨rfl, ?_⟩) hHeld ?_
              rotate_left
              · (intro wz hSw; (try dsimp only at hSw); go_simp; try with_reducible rfl)
              try simp only [Act.put, List.setIfInBounds_toArray, List.set_cons_zero, List.set_cons_succ]
              refine wpAnyH_take (i := 2) (oi := { dst := some 111, op := Op.move (Operand.tmp 2), type := 22, pos := "law.go:64", after := #[], guard := none }) (v := ?_) rfl (by kernel_rfl) (by kernel_rfl) (by kernel_rfl) (fun _ _ _ h => h) (Or.inl ⟨rfl, ?_⟩) hHeld ?_
              rotate_left
              · (intro wz hSw; (try dsimp only at hSw); go_simp; try with_reducible rfl)
              try simp only [Act.put, List.setIfInBounds_toArray, List.set_cons_zero, List.set_cons_succ]
              refine wpAnyH_take (i := 3) (oi := { dst := some 112, op := Op.move (Operand.tmp 14), type := 3, pos := "law.go:64", after := #[], guard := none }) (v := ?_) rfl (by kernel_rfl) (by kernel_rfl) (by kernel_rfl) (fun _ _ _ h => h) (Or.inl ⟨rfl, ?_⟩) hHeld ?_
              rotate_left
              · (intro wz hSw; (try dsimp only at hSw); go_simp; try with_reducible rfl)
              try simp only [Act.put, List.setIfInBounds_toArray, List.set_cons_zero, List.set_cons_succ]
              refine wpAnyH_take (i := 4) (oi := { dst := some 113, op := Op.indexAddr 22 (Operand.tmp 111) (Operand.tmp 112), type := 0, pos := "law.go:64", after := #[{ on := 2, ground := Ground.data }, { on := 3, ground := Ground.data }], guard := none }) (v := ?_) rfl (by kernel_rfl) (by kernel_rfl) (by kernel_rfl) (fun _ _ _ h => h) (Or.inl ⟨rfl, ?_⟩) hHeld ?_
              rotate_left
              · (intro wz hSw; (try dsimp only at hSw); go_simp; try with_reducible rfl)
              try simp only [Act.put, List.setIfInBounds_toArray, List.set_cons_zero, List.set_cons_succ]
              refine wpAnyH_take (i := 5) (oi := { dst := some 114, op := Op.fieldAddr 34 (Operand.tmp 113) 3, type := 0, pos := "law.go:64", after := #[{ on := 4, ground := Ground.data }], guard := none }) (v := ?_) rfl (by kernel_rfl) (by kernel_rfl) (by kernel_rfl) (fun _ _ _ h => h) (Or.inl ⟨rfl, ?_⟩) hHeld ?_
              rotate_left
              · (intro wz hSw; (try dsimp only at hSw); go_simp; try with_reducible rfl)
              try simp only [Act.put, List.setIfInBounds_toArray, List.set_cons_zero, List.set_cons_succ]
              refine wpAnyH_take (i := 6) (oi := { dst := some 115, op := Op.load 32 (Operand.tmp 114), type := 32, pos := "law.go:64", after := #[{ on := 5, ground := Ground.data }], guard := none }) (v := ?_) rfl (by kernel_rfl) (by kernel_rfl) (by kernel_rfl) (fun _ _ _ h => h) (Or.inl ⟨rfl, ?_⟩) hHeld ?_
              rotate_left
              · (intro wz hSw; (try dsimp only at hSw); go_simp; try with_reducible rfl)
              try simp only [Act.put, List.setIfInBounds_toArray, List.set_cons_zero, List.set_cons_succ]
              refine wpAnyH_take (i := 9) (oi := { dst := some 118, op := Op.move (Operand.tmp 10), type := 28, pos := "law.go:64", after := #[], guard := none }) (v := ?_) rfl (by kernel_rfl) (by kernel_rfl) (by kernel_rfl) (fun _ _ _ h => h) (Or.inl ⟨rfl, ?_⟩) hHeld ?_
              rotate_left
              · (intro wz hSw; (try dsimp only at hSw); go_simp; try with_reducible rfl)
              try simp only [Act.put, List.setIfInBounds_toArray, List.set_cons_zero, List.set_cons_succ]
              refine wpAnyH_take (i := 10) (oi := { dst := some 119, op := Op.move (Operand.tmp 25), type := 3, pos := "law.go:64", after := #[], guard := none }) (v := ?_) rfl (by kernel_rfl) (by kernel_rfl) (by kernel_rfl) (fun _ _ _ h => h) (Or.inl ⟨rfl, ?_⟩) hHeld ?_
              rotate_left
              · (intro wz hSw; (try dsimp only at hSw); go_simp; try with_reducible rfl)
              try simp only [Act.put, List.setIfInBounds_toArray, List.set_cons_zero, List.set_cons_succ]
              refine wpAnyH_take (i := 11) (oi := { dst := some 120, op := Op.move (Operand.tmp 2), type := 22, pos := "law.go:64", after := #[], guard := none }) (v := ?_) rfl (by kernel_rfl) (by kernel_rfl) (by kernel_rfl) (fun _ _ _ h => h) (Or.inl ⟨rfl, ?_⟩) hHeld ?_
              rotate_left
              · (intro wz hSw; (try dsimp only at hSw); go_simp; try with_reducible rfl)
              try simp only [Act.put, List.setIfInBounds_toArray, List.set_cons_zero, List.set_cons_succ]
              refine wpAnyH_take (i := 12) (oi := { dst := some 121, op := Op.move (Operand.tmp 14), type := 3, pos := "law.go:64", after := #[], guard := none }) (v := ?_) rfl (by kernel_rfl) (by kernel_rfl) (by kernel_rfl) (fun _ _ _ h => h) (Or.inl ⟨rfl, ?_⟩) hHeld ?_
              rotate_left
              · (intro wz hSw; (try dsimp only at hSw); go_simp; try with_reducible rfl)
              try simp only [Act.put, List.setIfInBounds_toArray, List.set_cons_zero, List.set_cons_succ]
              refine wpAnyH_take (i := 13) (oi := { dst := some 122, op := Op.indexAddr 22 (Operand.tmp 120) (Operand.tmp 121), type := 0, pos := "law.go:64", after := #[{ on := 11, ground := Ground.data }, { on := 12, ground := Ground.data }], guard := none }) (v := ?_) rfl (by kernel_rfl) (by kernel_rfl) (by kernel_rfl) (fun _ _ _ h => h) (Or.inl ⟨rfl, ?_⟩) hHeld ?_
              rotate_left
              · (intro wz hSw; (try dsimp only at hSw); go_simp; try with_reducible rfl)
              try simp only [Act.put, List.setIfInBounds_toArray, List.set_cons_zero, List.set_cons_succ]
              refine wpAnyH_take (i := 14) (oi := { dst := some 123, op := Op.fieldAddr 34 (Operand.tmp 122) 3, type := 0, pos := "law.go:64", after := #[{ on := 13, ground := Ground.data }], guard := none }) (v := ?_) rfl (by kernel_rfl) (by kernel_rfl) (by kernel_rfl) (fun _ _ _ h => h) (Or.inl ⟨rfl, ?_⟩) hHeld ?_
              rotate_left
              · (intro wz hSw; (try dsimp only at hSw); go_simp; try with_reducible rfl)
              try simp only [Act.put, List.setIfInBounds_toArray, List.set_cons_zero, List.set_cons_succ]
              refine wpAnyH_take (i := 15) (oi := { dst := some 124, op := Op.load 32 (Operand.tmp 123), type := 32, pos := "law.go:64", after := #[{ on := 14, ground := Ground.data }], guard := none }) (v := ?_) rfl (by kernel_rfl) (by kernel_rfl) (by kernel_rfl) (fun _ _ _ h => h) (Or.inl ⟨rfl, ?_⟩) hHeld ?_
              rotate_left
              · (intro wz hSw; (try dsimp only at hSw); go_simp; try with_reducible rfl)
              try simp only [Act.put, List.setIfInBounds_toArray, List.set_cons_zero, List.set_cons_succ]
              refine wpAnyH_ready (rs := [7]) (by kernel_rfl) (by simp) ?_
              refine AllReadyH.cons (o := { dst := some 116, op := Op.call { callee := Callee.value (Operand.func 20), args := #[Operand.tmp 115], argTypes := #[32] }, type := 32, pos := "law.go:64", after := #[{ on := 6, ground := Ground.data }], guard := none }) rfl (fun K hK => ?_) (AllReadyH.nil)
              go_simp
              go_at_call 20
              refine (few_any _ A m cc xs hWx.out).mono ?_
              rintro e wf ⟨rfl, rfl⟩
              rw [hm.out]
              have hN := (show (fun (wz : World) => World.cell? wz ⟨b, off + k * 4 + 3, none⟩ = some (Value.slice A m cc)) _ from hHeld)
              clear hHeld
              refine hK.out _ _ hN (fun hHeld => ?_)
              clear hK K hN
              try simp only [Act.put, List.setIfInBounds_toArray, List.set_cons_zero, List.set_cons_succ]
              refine wpAnyH_ready (rs := [8]) (by kernel_rfl) (by simp) ?_
              refine AllReadyH.cons (o := { dst := some 117, op := Op.call { callee := Callee.value (Operand.func 19), args := #[Operand.tmp 109, Operand.tmp 110, Operand.tmp 116], argTypes := #[24, 3, 32] }, type := 25, pos := "law.go:64", after := #[{ on := 0, ground := Ground.data }, { on := 1, ground := Ground.data }, { on := 7, ground := Ground.data }, { on := 7, ground := Ground.chain }], guard := none }) rfl (fun K hK => ?_) (AllReadyH.nil)
              go_simp
              go_at_call 19
              refine (M.place_no hMd.out p A m' cc (by unfold maxLen; omega) pr.1 pr.2 hf2).mono ?_
              rintro e wd ⟨rfl, rfl⟩
              have hN := (show (fun (wz : World) => World.cell? wz ⟨b, off + k * 4 + 3, none⟩ = some (Value.slice A m cc)) _ from hHeld)
              clear hHeld
              refine hK.out _ _ hN (fun hHeld => ?_)
              clear hK K hN
              try simp only [Act.put, List.setIfInBounds_toArray, List.set_cons_zero, List.set_cons_succ]
              refine wpAnyH_ready (rs := [16]) (by kernel_rfl) (by simp) ?_
              refine AllReadyH.cons (o := { dst := some 125, op := Op.call { callee := Callee.value (Operand.func 20), args := #[Operand.tmp 124], argTypes := #[32] }, type := 32, pos := "law.go:64", after := #[{ on := 15, ground := Ground.data }, { on := 8, ground := Ground.chain }], guard := none }) rfl (fun K hK => ?_) (AllReadyH.nil)
              go_simp
              go_at_call 20
              refine (few_any _ A m cc xs hWx.out).mono ?_
              rintro e wf ⟨rfl, rfl⟩
              rw [hm.out]
              have hN := (show (fun (wz : World) => World.cell? wz ⟨b, off + k * 4 + 3, none⟩ = some (Value.slice A m cc)) _ from hHeld)
              clear hHeld
              refine hK.out _ _ hN (fun hHeld => ?_)
              clear hK K hN
              try simp only [Act.put, List.setIfInBounds_toArray, List.set_cons_zero, List.set_cons_succ]
              refine wpAnyH_ready (rs := [17]) (by kernel_rfl) (by simp) ?_
              refine AllReadyH.cons (o := { dst := some 126, op := Op.call { callee := Callee.value (Operand.func 21), args := #[Operand.tmp 118, Operand.tmp 119, Operand.tmp 125], argTypes := #[28, 3, 32] }, type := 25, pos := "law.go:64", after := #[{ on := 9, ground := Ground.data }, { on := 10, ground := Ground.data }, { on := 16, ground := Ground.data }, { on := 16, ground := Ground.chain }], guard := none }) rfl (fun K hK => ?_) (AllReadyH.nil)
              go_simp
              go_at_call 21
              refine (R.place_no hRd.out p A m' cc (by unfold maxLen; omega) pr.1 pr.2 hf2).mono ?_
              rintro e we ⟨rfl, rfl⟩
              have hN := (show (fun (wz : World) => World.cell? wz ⟨b, off + k * 4 + 3, none⟩ = some (Value.slice A m cc)) _ from hHeld)
              clear hHeld
              refine hK.out _ _ hN (fun hHeld => ?_)
              clear hK K hN
              try simp only [Act.put, List.setIfInBounds_toArray, List.set_cons_zero, List.set_cons_succ]
              refine wpAnyH_take (i := 18) (oi := { dst := some 127, op := Op.binOp BinOp.eql 25 (Operand.tmp 117) (Operand.tmp 126) 25, type := 4, pos := "law.go:64", after := #[{ on := 8, ground := Ground.data }, { on := 17, ground := Ground.data }], guard := none }) (v := ?_) rfl (by kernel_rfl) (by kernel_rfl) (by kernel_rfl) (fun _ _ _ h => h) (Or.inl ⟨rfl, ?_⟩) hHeld ?_
              rotate_left
              · (intro wz hSw; (try dsimp only at hSw); go_simp; try with_reducible rfl)
              try simp only [Act.put, List.setIfInBounds_toArray, List.set_cons_zero, List.set_cons_succ]
              refine wpAnyH_take (i := 19) (oi := { dst := some 16, op := Op.assign (Operand.tmp 127), type := 4, pos := "law.go:64", after := #[{ on := 18, ground := Ground.data }, { on := 17, ground := Ground.chain }, { on := 0, ground := Ground.phase }, { on := 1, ground := Ground.phase }, { on := 2, ground := Ground.phase }, { on := 3, ground := Ground.phase }, { on := 4, ground := Ground.phase }, { on := 5, ground := Ground.phase }, { on := 6, ground := Ground.phase }, { on := 7, ground := Ground.phase }, { on := 8, ground := Ground.phase }, { on := 9, ground := Ground.phase }, { on := 10, ground := Ground.phase }, { on := 11, ground := Ground.phase }, { on := 12, ground := Ground.phase }, { on := 13, ground := Ground.phase }, { on := 14, ground := Ground.phase }, { on := 15, ground := Ground.phase }, { on := 16, ground := Ground.phase }, { on := 17, ground := Ground.phase }, { on := 18, ground := Ground.phase }], guard := none }) (v := ?_) rfl (by kernel_rfl) (by kernel_rfl) (by kernel_rfl) (fun _ _ _ h => h) (Or.inl ⟨rfl, ?_⟩) hHeld ?_
              rotate_left
              · (intro wz hSw; (try dsimp only at hSw); go_simp; try with_reducible rfl)
              try simp only [Act.put, List.setIfInBounds_toArray, List.set_cons_zero, List.set_cons_succ]
              refine wpAnyH_done (by kernel_rfl) ?_ _
              clear hHeld hWx hWy
              go_wp2
              go_meet
              case rel => exact ⟨by first | rfl | simp, _, hMd.out, hRd.out, hbd2.out⟩
          clear hMr hRr hb hC
          obtain ⟨rfl, ws', hMr, hRr, hb⟩ := hcut
          have hl := hMr.len
          replace hRr := Lib.hid hRr
          have hb9 := hb.size
          replace hb := Lib.hid hb
          go_wp2_with (fail)
          refine (M.words_any hMr).mono ?_; rintro e w5 ⟨g, rfl, hg, hW5, hK5⟩
          replace hMr := Lib.hid (hMr.kept hK5)
          replace hRr := Lib.hid (hRr.out.kept hK5)
          replace hb := Lib.hid (below_kept hb.out hK5 hb9)
          replace hb9 := hb.out.size
          replace hW5 := Lib.hid hW5
          clear hK5
          go_wp2_with (fail)
          refine (R.words_any hRr.out).mono ?_; rintro e w6 ⟨g6, cap6, rfl, hW6, hB6⟩
          replace hMr := Lib.hid (hMr.out.below hB6)
          replace hRr := Lib.hid (hRr.out.below hB6)
          replace hb := Lib.hid (hb.out.trans (hB6.mono hb9))
          replace hb9 := hb.out.size
          replace hW5 := Lib.hid (hW5.out.below (w0 := w5) (Nat.le_refl _) hB6)
          replace hW6 := Lib.hid hW6
          clear hB6
          go_wp2_with (fail)
          refine (same_any hW5.out hW6.out).mono ?_; rintro e w7 ⟨rfl, hK7⟩
          rw [decide_eq_true rfl]
          replace hMr := Lib.hid (hMr.out.kept hK7)
          replace hRr := Lib.hid (hRr.out.kept hK7)
          replace hb := Lib.hid (below_kept hb.out hK7 hb9)
          clear hK7 hW5 hW6
          go_wp2
          go_roundw
          case rel => exact ⟨k + 1, by omega, by go_num, ws', hMr.out, hRr.out, hb.out⟩
          case measure => simp [intOf]; omega
        · have f4 : ¬ (k : Int) < 30 := by omega
          go_wp2
          go_ret
          exact ⟨rfl, hb⟩
      · have f2 : ¬ (k : Int) < n := by omega
        go_wp2
        go_ret
        exact ⟨rfl, hb⟩
set_option maxRecDepth 100000 in
set_option maxHeartbeats 2000000 in
theorem walk_plays_none (w : World) (v : Int) (kk : Nat) (hv : v % 32 = kk) (v0 : 0 ≤ v) (v1 : v ≤ 255) (hkk : kk ≤ 31) (d : Int) (d0 : -9223372036854775808 ≤ d) (d1 : d ≤ 9223372036854775807) (A : Option Addr) (c : Nat) :
    Calls Try.prog 3 #[.int .u8 v, .int .i64 d, .slice A 0 c] w fun e w' => e = .returned (.bool true) ∧ Below w.heap.size w w' := by
  go_enter Try.func3, Try.ntmps3
  go_wp2_with (fail)
  refine (shown_any w).mono ?_; rintro e w1 ⟨rfl, hK⟩
  replace hK := Lib.hid hK
  go_wp2_with (fail)
  refine (M.new_yes kk (by omega) w1).mono ?_; rintro e w2 ⟨rfl, hM, hK2, hs2⟩
  have hB : w.heap.size ≤ w1.heap.size := hK.out.size
  replace hK := Lib.hid (hK.out.trans hK2)
  replace hM := Lib.hid hM
  generalize w1.heap.size = B at *
  clear hK2
  go_wp2_with (fail)
  refine (R.new_any kk (by omega) w2).mono ?_; rintro e w3 ⟨rfl, hR, hK3, hs3⟩
  replace hK := Lib.hid (hK.out.trans hK3)
  replace hM := Lib.hid (hM.out.kept hK3)
  replace hR := Lib.hid hR
  rw [hs2] at *
  clear hK3 hs2
  go_upto_region 4 with (fail)
  go_cut [46] from 41 to 46 (fun v wc => v = .bool (decide (0 ≤ d ∧ d ≤ 4096)) ∧ wc = w3)
  case first =>
    by_cases e1 : d < 0
    · have e2 : ¬ 0 ≤ d := by omega
      have e5 : decide (0 ≤ d) = false := decide_eq_false e2
      have e6 := Lib.hid (show Value.bool false = Value.bool (decide (0 ≤ d ∧ d ≤ 4096)) by rw [decide_eq_false (by omega)])
      go_wp2
      go_meet
      case rel => exact ⟨e6.out, by first | rfl | trivial⟩
    · have e2 : 0 ≤ d := by omega
      by_cases e3 : d ≤ 4096
      · have e6 := Lib.hid (show Value.bool true = Value.bool (decide (0 ≤ d ∧ d ≤ 4096)) by rw [decide_eq_true (by omega)])
        go_wp2
        go_meet
        case rel => exact ⟨e6.out, by first | rfl | trivial⟩
      · have e4 : decide (d ≤ 4096) = false := decide_eq_false e3
        have e6 := Lib.hid (show Value.bool false = Value.bool (decide (0 ≤ d ∧ d ≤ 4096)) by rw [decide_eq_false (by omega)])
        go_wp2
        go_meet
        case rel => exact ⟨e6.out, by first | rfl | trivial⟩
  obtain ⟨rfl, rfl⟩ := hcut
  go_upto_if 46 with (fail)
  go_cut [1] from 41 to 48 (fun v wc' => ∃ o : Int, v = .int .i64 o ∧ (o < 0 ∨ 4096 < o) ∧ -9223372036854775808 ≤ o ∧ o ≤ 9223372036854775807 ∧ wc' = wc)
  case first =>
    by_cases e1 : 0 ≤ d ∧ d ≤ 4096
    · rw [decide_eq_true e1]
      have e2 := e1.1
      have e3 := e1.2
      go_wp2
      go_meet
      case rel => exact ⟨-1 - d, rfl, by omega, by omega, by omega, by first | rfl | trivial⟩
    · rw [decide_eq_false e1]
      go_wp2
      go_meet
      case rel => exact ⟨d, rfl, by omega, d0, d1, by first | rfl | trivial⟩
  case rest =>
    obtain ⟨o, rfl, o1, o2, o3, rfl⟩ := hcut
    go_wp2_with (fail)
    refine (M.new_no o o1 _).mono ?_; rintro e w4 ⟨rfl, rfl⟩
    go_wp2
    go_loopw [14] (fun i wr => i = .int .i64 0 ∧ Below w.heap.size w wr) (fun _ _ => 0)
    case atStart => exact ⟨rfl, hK.out.below⟩
    case round =>
      obtain ⟨rfl, hb⟩ := hrel
      replace hb := Lib.hid hb
      go_wp2
      go_ret
      exact ⟨rfl, hb.out⟩
end Go.Proofs.Ytkefggnocmmeoaa
