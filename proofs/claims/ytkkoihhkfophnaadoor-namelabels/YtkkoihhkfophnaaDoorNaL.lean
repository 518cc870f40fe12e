/-
  The document's Fit, a label; the walk of NameLabels.
-/
import Derived.Test.YtkkoihhkfophnaaDoorNaB
import Derived.Deep.CutRange
import Derived.OrdersHeld
import Derived.Deep.RegionHeld3
namespace Go.Proofs.YtkkoihhkfophnaaDoor
open Go.RowKit
set_option linter.unusedVariables false
set_option linter.unusedSimpArgs false
set_option maxRecDepth 100000
theorem Na.name_len {xs : List Int} (h : L.name xs = true) : 1 ≤ xs.length ∧ xs.length ≤ 12 := by
  unfold L.name at h
  simp only [Bool.and_eq_true, decide_eq_true_eq] at h
  exact h.1.1.1
theorem Na.label_len2 {xs : List Int} (h : Na.label xs = true) : 1 ≤ xs.length ∧ xs.length ≤ 12 := by
  by_cases c : xs.length < 1 ∨ 12 < xs.length
  · rw [Na.label_len c] at h; cases h
  · omega
set_option maxRecDepth 100000 in
theorem Na.rfit_any (s : ByteArray) (hs : s.size ≤ maxLen) (w : World) : Calls Tryd.prog 20 #[.string s] w fun e w' => ∃ l, e = .returned (.string l) ∧ Na.label (L.bs l) = true ∧ Below w.heap.size w w' := by
  have C := Lib.hid (L.fit_any s hs w)
  unfold maxLen at hs
  have hs1 : (s.size : Int) ≤ 9223372036854775807 := by omega
  go_enter Tryd.func20, Tryd.ntmps20
  go_wp2_with (fail)
  refine C.out.mono ?_; rintro e w2 ⟨t, rfl, hn, hB⟩
  have hl := Na.name_len hn
  rw [L.bs_len] at hl
  replace hB := Lib.hid hB
  have ht1 : (t.size : Int) ≤ 12 := by omega
  by_cases c : (s.size : Int) % 3 = 1
  · by_cases c2 : (t.size : Int) < 11
    · have R := Lib.hid (show Na.label (L.bs (⟨#[95]⟩ ++ t.extract 0 t.size)) = true by
        have e : L.bs (⟨#[95]⟩ ++ t.extract 0 t.size) = 95 :: (L.bs t).take 11 := by
          rw [L.bs_append, Na.bs_extract, List.drop_zero, List.take_of_length_le (by rw [L.bs_len]; omega), List.take_of_length_le (by rw [L.bs_len]; omega)]; rfl
        rw [e]; exact Na.label_under hn)
      have c3 : (t.size : Int) ≤ 11 := by omega
      clear hn hl
      go_wp2
      go_ret
      exact ⟨_, rfl, by first | exact R.out | (have h := R.out; simpa using h), hB.out⟩
    · have R := Lib.hid (show Na.label (L.bs (⟨#[95]⟩ ++ t.extract 0 11)) = true by
        have e : L.bs (⟨#[95]⟩ ++ t.extract 0 11) = 95 :: (L.bs t).take 11 := by
          rw [L.bs_append, Na.bs_extract, List.drop_zero]; rfl
        rw [e]; exact Na.label_under hn)
      by_cases c4 : (t.size : Int) = 11
      · have c5 : t.size = 11 := by omega
        clear hn hl
        go_wp2
        go_ret
        exact ⟨_, rfl, by first | exact R.out | (have h := R.out; simpa [c5] using h), hB.out⟩
      · have c3 : ¬ (t.size : Int) ≤ 11 := by omega
        clear hn hl
        go_wp2
        go_ret
        exact ⟨_, rfl, R.out, hB.out⟩
  · have R := Lib.hid (Na.label_name hn)
    clear hn hl
    go_wp2
    go_ret
    exact ⟨_, rfl, R.out, hB.out⟩
/-- a label, a byte behind it, and one in it -/
theorem Na.end_eq {l : ByteArray} (h : Na.label (L.bs l) = true) (c : Int) (c0 : 0 ≤ c) (c1 : c < 256) : Na.label (L.bs (l ++ strOfNums [c])) = (L.part c && decide (l.size + 1 ≤ 12) && !(L.digit c && (decide (L.bs l = [82]) || (decide (l.size = 2) && decide ((L.bs l).getD 0 0 = 82) && L.digit ((L.bs l).getD 1 0))))) := by
  rw [L.bs_append, L.bs_str _ (by simp; omega), Na.label_snoc h c, L.bs_len]
theorem Na.in_eq {l : ByteArray} (c : Int) (c0 : 0 ≤ c) (c1 : c < 256) (k : Nat) (h : L.part c = false) : Na.label (L.bs (l.extract 0 k ++ strOfNums [c] ++ l.extract k l.size)) = false := by
  rw [L.bs_append, L.bs_append, L.bs_str _ (by simp; omega), Na.bs_extract, Na.bs_extract, List.drop_zero, List.take_of_length_le (l := (L.bs l).drop k) (by rw [List.length_drop, L.bs_len]; exact Nat.le_refl _)]
  exact Na.label_bad c k h
theorem Na.one_eq (l : ByteArray) : Na.label (L.bs (⟨#[49]⟩ ++ l)) = false := by
  rw [L.bs_append]; exact Na.label_one _
set_option maxHeartbeats 8000000 in
set_option maxRecDepth 100000 in
theorem walk_labels (w : World) (s : ByteArray) (hs : s.size ≤ maxLen) (c a : Int) (c0 : 0 ≤ c) (c1 : c < 256) (a0 : 0 ≤ a) (a1 : a < 256) (hC : Na.Conds w) :
    Calls Tryd.prog 5 #[.string s, .int .u8 c, .int .u8 a] w fun e w' => e = .returned (.bool true) ∧ Below w.heap.size w w' := by
  have SH := Lib.hid (Na.shown_any hC)
  have FE := Lib.hid (fun w => Na.few_any s hs w)
  clear hC hs
  go_enter Tryd.func5, Tryd.ntmps5
  go_wp2_with (fail)
  refine SH.out.mono ?_; rintro e w1 ⟨rfl, hB⟩
  replace hB := Lib.hid hB
  clear SH
  go_wp2_with (fail)
  refine (FE.out _).mono ?_; rintro e w2 ⟨t, rfl, ht, rfl⟩
  clear FE
  have FI := Lib.hid (Na.rfit_any t (by unfold maxLen; omega) w1)
  clear ht
  go_wp2_with (fail)
  refine FI.out.mono ?_; rintro e w2 ⟨l, rfl, hl, hB2⟩
  replace hB := Lib.hid (Bel.trans hB.out hB2)
  clear FI hB2
  have hll := Na.label_len2 hl
  rw [L.bs_len] at hll
  replace hl := Lib.hid hl
  have hl1 : (1 : Int) ≤ (l.size : Int) := by omega
  have hl2 : (l.size : Int) ≤ 12 := by omega
  go_upto_region 3 with (fail)
  obtain ⟨q, hq⟩ : ∃ q, Hid (q = L.part c) := ⟨_, Lib.hid rfl⟩
  go_cut [9] from 19 to 44 (fun v wx => v = .bool q ∧ wx = w2)
  case first =>
    rcases (show (c < 48) ∨ (48 ≤ c ∧ c ≤ 57) ∨ (58 ≤ c ∧ c ≤ 64) ∨ (65 ≤ c ∧ c ≤ 90) ∨ (91 ≤ c ∧ c ≤ 94) ∨ c = 95 ∨ c = 96 ∨ (97 ≤ c ∧ c ≤ 122) ∨ (123 ≤ c) by omega) with h | ⟨h, h'⟩ | ⟨h, h'⟩ | ⟨h, h'⟩ | ⟨h, h'⟩ | rfl | rfl | ⟨h, h'⟩ | h
    all_goals
      go_wp2
      go_meet
      case rel => exact ⟨congrArg Value.bool (show _ = q by rw [hq.out]; unfold L.part L.letter L.digit; rw [Bool.eq_iff_iff]; simp; try omega), rfl⟩
  case rest =>
    obtain ⟨rfl, rfl⟩ := hcut
    have hz : (strOfNums [c]).size = 1 := by rw [strOfNums_size]; rfl
    have hY0 := Lib.hid (Rw.one (L := 256) (Has.new #[.int .u8 c] 5 wc) c0 c1)
    replace hB := Lib.hid (Bel.trans hB.out ((Kept.refl wc).alloc #[.int .u8 c] 5).below)
    go_upto_region 5 with (first | (with_reducible refine want_do (o := ⟨some 48, _, _, _, _, _⟩) rfl (exec_text Tryd.underlying35 Tryd.underlying5 Tryd.underlying9 (.tmp 47) rfl rfl hY0.out) ?_) | fail)
    clear hY0
    generalize (wc.alloc (.cells #[.int .u8 c] 5)) = w3 at *
    obtain ⟨k, hk⟩ : ∃ k : Nat, a % ((l.size : Int) + 1) = (k : Int) := Int.eq_ofNat_of_zero_le (Int.emod_nonneg _ (by omega))
    have hk2 : k ≤ l.size := by
      have := Int.emod_lt_of_pos a (show 0 < (l.size : Int) + 1 by omega)
      omega
    have hk3 : (k : Int) ≤ (l.size : Int) := by omega
    go_upto_region 6 with (fail)
    rw [hk]
    clear hk
    generalize hCe : strOfNums [c] = C at *
    have hs1 : (l.extract 0 k).size ≤ 12 := by simp; omega
    have hs2 : (l.extract k l.size).size ≤ 12 := by simp; omega
    go_cut [12] from 56 to 66 (fun v wx => v = .string (l.extract 0 k ++ C ++ l.extract k l.size) ∧ Below w.heap.size w wx)
    case first =>
      refine wp_region_held_drew (S := fun w' => Below w3.heap.size w3 w') (by kernel_rfl) ((Below.refl _ _).drew) (fun hHeld => ?_)
      replace hB := Lib.hid (Bel.trans hB.out hHeld)
      refine wpAnyH_now _ _ _ _ hHeld (fun hHeld => ?_)
      generalize w3.drew = w3d at *
      refine wpAnyH_take (i := 0) (oi := { dst := some 56, op := Op.move (Operand.tmp 8), type := 9, pos := "law.go:54", after := #[], guard := none }) (v := ?_) rfl (by kernel_rfl) (by kernel_rfl) (by kernel_rfl) (fun _ _ _ h => h) (Or.inl ⟨rfl, ?_⟩) hHeld ?_
      rotate_left
      · (intro wz hSw; go_simp; try with_reducible rfl)
      try simp only [Act.put, List.setIfInBounds_toArray, List.set_cons_zero, List.set_cons_succ]
      refine wpAnyH_take (i := 1) (oi := { dst := some 57, op := Op.move (Operand.tmp 11), type := 3, pos := "law.go:54", after := #[], guard := none }) (v := ?_) rfl (by kernel_rfl) (by kernel_rfl) (by kernel_rfl) (fun _ _ _ h => h) (Or.inl ⟨rfl, ?_⟩) hHeld ?_
      rotate_left
      · (intro wz hSw; go_simp; try with_reducible rfl)
      try simp only [Act.put, List.setIfInBounds_toArray, List.set_cons_zero, List.set_cons_succ]
      refine wpAnyH_take (i := 2) (oi := { dst := some 58, op := Op.slice 9 (Operand.tmp 56) none (some (Operand.tmp 57)) none, type := 9, pos := "law.go:54", after := #[{ on := 0, ground := Ground.data }, { on := 1, ground := Ground.data }], guard := none }) (v := ?_) rfl (by kernel_rfl) (by kernel_rfl) (by kernel_rfl) (fun _ _ _ h => h) (Or.inl ⟨rfl, ?_⟩) hHeld ?_
      rotate_left
      · (intro wz hSw; go_simp; try with_reducible rfl)
      try simp only [Act.put, List.setIfInBounds_toArray, List.set_cons_zero, List.set_cons_succ]
      refine wpAnyH_take (i := 3) (oi := { dst := some 59, op := Op.move (Operand.tmp 1), type := 5, pos := "law.go:54", after := #[], guard := none }) (v := ?_) rfl (by kernel_rfl) (by kernel_rfl) (by kernel_rfl) (fun _ _ _ h => h) (Or.inl ⟨rfl, ?_⟩) hHeld ?_
      rotate_left
      · (intro wz hSw; go_simp; try with_reducible rfl)
      try simp only [Act.put, List.setIfInBounds_toArray, List.set_cons_zero, List.set_cons_succ]
      refine wpAnyH_take (i := 7) (oi := { dst := some 63, op := Op.move (Operand.tmp 8), type := 9, pos := "law.go:54", after := #[], guard := none }) (v := ?_) rfl (by kernel_rfl) (by kernel_rfl) (by kernel_rfl) (fun _ _ _ h => h) (Or.inl ⟨rfl, ?_⟩) hHeld ?_
      rotate_left
      · (intro wz hSw; go_simp; try with_reducible rfl)
      try simp only [Act.put, List.setIfInBounds_toArray, List.set_cons_zero, List.set_cons_succ]
      refine wpAnyH_take (i := 8) (oi := { dst := some 64, op := Op.move (Operand.tmp 11), type := 3, pos := "law.go:54", after := #[], guard := none }) (v := ?_) rfl (by kernel_rfl) (by kernel_rfl) (by kernel_rfl) (fun _ _ _ h => h) (Or.inl ⟨rfl, ?_⟩) hHeld ?_
      rotate_left
      · (intro wz hSw; go_simp; try with_reducible rfl)
      try simp only [Act.put, List.setIfInBounds_toArray, List.set_cons_zero, List.set_cons_succ]
      refine wpAnyH_take (i := 9) (oi := { dst := some 65, op := Op.slice 9 (Operand.tmp 63) (some (Operand.tmp 64)) none none, type := 9, pos := "law.go:54", after := #[{ on := 7, ground := Ground.data }, { on := 8, ground := Ground.data }], guard := none }) (v := ?_) rfl (by kernel_rfl) (by kernel_rfl) (by kernel_rfl) (fun _ _ _ h => h) (Or.inl ⟨rfl, ?_⟩) hHeld ?_
      rotate_left
      · (intro wz hSw; go_simp; try with_reducible rfl)
      try simp only [Act.put, List.setIfInBounds_toArray, List.set_cons_zero, List.set_cons_succ]
      refine wpAnyH_ready (rs := [4]) (by kernel_rfl) (by simp) ?_
      refine AllReadyH.cons (o := { dst := some 60, op := Op.buildSlice 35 1 #[(0, Operand.tmp 59)], type := 35, pos := "law.go:54", after := #[{ on := 3, ground := Ground.data }], guard := none }) rfl (fun K hK => ?_) AllReadyH.nil
      go_simp
      have hE : Below w3d.heap.size w3d (w3d.alloc (.cells #[.int .u8 c] 5)) := ((Kept.refl w3d).alloc _ _).below
      have hY := Rw.one (L := 256) (Has.new #[.int .u8 c] 5 w3d) c0 c1
      generalize (w3d.alloc (.cells #[.int .u8 c] 5)) = w4 at *
      clear hHeld
      refine hK.out _ _ hE (fun hHeld => ?_)
      clear hK K
      replace hB := Lib.hid (Bel.trans hB.out hE)
      replace hY := Lib.hid hY
      refine wpAnyH_now _ _ _ _ hE (fun hHeld => ?_)
      clear hE
      try simp only [Act.put, List.setIfInBounds_toArray, List.set_cons_zero, List.set_cons_succ]
      refine wpAnyH_take (i := 5) (oi := { dst := some 61, op := Op.convert 35 9 (Operand.tmp 60), type := 9, pos := "law.go:54", after := #[{ on := 4, ground := Ground.data }], guard := none }) (v := ?_) rfl (by kernel_rfl) (by kernel_rfl) (by kernel_rfl) (fun _ _ _ h => h) (Or.inl ⟨rfl, ?_⟩) hHeld ?_
      rotate_left
      · (intro wz hSw; rw [← hCe]; refine exec_text Tryd.underlying35 Tryd.underlying5 Tryd.underlying9 (.tmp 60) ?_ ?_ (hY.out.below hSw) <;> rfl)
      try simp only [Act.put, List.setIfInBounds_toArray, List.set_cons_zero, List.set_cons_succ]
      refine wpAnyH_take (i := 6) (oi := { dst := some 62, op := Op.binOp BinOp.add 9 (Operand.tmp 58) (Operand.tmp 61) 9, type := 9, pos := "law.go:54", after := #[{ on := 2, ground := Ground.data }, { on := 5, ground := Ground.data }], guard := none }) (v := ?_) rfl (by kernel_rfl) (by kernel_rfl) (by kernel_rfl) (fun _ _ _ h => h) (Or.inl ⟨rfl, ?_⟩) hHeld ?_
      rotate_left
      · (intro wz hSw; go_simp; (first | (rw [if_neg (by omega)]; done) | (rw [if_neg (by omega)]; with_reducible rfl)))
      try simp only [Act.put, List.setIfInBounds_toArray, List.set_cons_zero, List.set_cons_succ]
      refine wpAnyH_take (i := 10) (oi := { dst := some 66, op := Op.binOp BinOp.add 9 (Operand.tmp 62) (Operand.tmp 65) 9, type := 9, pos := "law.go:54", after := #[{ on := 6, ground := Ground.data }, { on := 9, ground := Ground.data }], guard := none }) (v := ?_) rfl (by kernel_rfl) (by kernel_rfl) (by kernel_rfl) (fun _ _ _ h => h) (Or.inl ⟨rfl, ?_⟩) hHeld ?_
      rotate_left
      · (intro wz hSw; go_simp; (first | (rw [if_neg (by omega)]; done) | (rw [if_neg (by omega)]; with_reducible rfl)))
      try simp only [Act.put, List.setIfInBounds_toArray, List.set_cons_zero, List.set_cons_succ]
      refine wpAnyH_take (i := 11) (oi := { dst := some 12, op := Op.assign (Operand.tmp 66), type := 9, pos := "law.go:54", after := #[{ on := 10, ground := Ground.data }, { on := 0, ground := Ground.phase }, { on := 1, ground := Ground.phase }, { on := 2, ground := Ground.phase }, { on := 3, ground := Ground.phase }, { on := 4, ground := Ground.phase }, { on := 5, ground := Ground.phase }, { on := 6, ground := Ground.phase }, { on := 7, ground := Ground.phase }, { on := 8, ground := Ground.phase }, { on := 9, ground := Ground.phase }, { on := 10, ground := Ground.phase }], guard := none }) (v := ?_) rfl (by kernel_rfl) (by kernel_rfl) (by kernel_rfl) (fun _ _ _ h => h) (Or.inl ⟨rfl, ?_⟩) hHeld ?_
      rotate_left
      · (intro wz hSw; go_simp; try with_reducible rfl)
      try simp only [Act.put, List.setIfInBounds_toArray, List.set_cons_zero, List.set_cons_succ]
      refine wpAnyH_done (by kernel_rfl) ?_ _
      (try go_wp2)
      go_meet
      case rel => exact ⟨rfl, hB.out⟩
    case rest =>
      obtain ⟨rfl, hcut⟩ := hcut
      replace hB := Lib.hid hcut
      clear hcut hs1 hs2
      obtain ⟨dg, hdg⟩ : ∃ d, Hid (d = L.digit c) := ⟨_, Lib.hid rfl⟩
      go_upto_region 7 with (fail)
      go_cut [13] from 67 to 72 (fun v wx => v = .bool dg ∧ wx = wc)
      case first =>
        rcases (show (c < 48) ∨ (48 ≤ c ∧ c ≤ 57) ∨ (58 ≤ c) by omega) with h | ⟨h, h'⟩ | h
        all_goals
          go_wp2
          go_meet
          case rel => exact ⟨congrArg Value.bool (show _ = dg by rw [hdg.out]; unfold L.digit; rw [Bool.eq_iff_iff]; simp; try omega), rfl⟩
      case rest =>
        rename_i wc0 _
        obtain ⟨rfl, rfl⟩ := hcut
        have hq' := hq.out
        have hdg' := hdg.out
        have eE := Na.end_eq hl.out c c0 c1
        have eI := fun h => Na.in_eq (l := l) c c0 c1 k h
        have sE : (l ++ C).size = l.size + 1 := by rw [ByteArray.size_append, hz]
        have sI : (l.extract 0 k ++ C ++ l.extract k l.size).size ≤ 100 := by
          rw [ByteArray.size_append, ByteArray.size_append, hz]
          simp
          omega
        rw [hCe] at eE eI
        rw [← hq', ← hdg'] at eE
        rw [← hq'] at eI
        have LA1 := Lib.hid (fun w => Na.label_any l (by omega) w)
        rw [hl.out] at LA1
        have LA2 := Lib.hid (fun w => Na.label_any (l ++ C) (by omega) w)
        rw [eE] at LA2
        have LA4 := Lib.hid (fun w => Na.label_any ⟨#[]⟩ (by decide) w)
        rw [show Na.label (L.bs ⟨#[]⟩) = false from rfl] at LA4
        have LA5 := Lib.hid (fun w => Na.label_any (⟨#[49]⟩ ++ l) (by rw [ByteArray.size_append]; show 1 + l.size ≤ _; omega) w)
        rw [Na.one_eq] at LA5
        have LA3 := Lib.hid (fun w => Na.label_any (l.extract 0 k ++ C ++ l.extract k l.size) (by omega) w)
        have hz1 : ¬ 9223372036854775807 < 1 + l.size := by omega
        have hs3 : (((l ++ C).size : Nat) : Int) = (l.size : Int) + 1 := by omega
        clear eE hq hdg hCe
        generalize l ++ C = EN at *
        generalize l.extract 0 k ++ C ++ l.extract k l.size = IN at *
        cases q with
        | false =>
          rw [eI rfl] at LA3
          simp only [Bool.false_and] at LA2
          clear eI hq' hdg' hl
          go_wp2_with (fail)
          refine (LA1.out _).mono ?_; rintro e w5 ⟨rfl, rfl⟩
          clear LA1
          go_wp2_with (fail)
          refine (LA2.out _).mono ?_; rintro e w5 ⟨rfl, rfl⟩
          clear LA2
          go_wp2_with (fail)
          refine (LA3.out _).mono ?_; rintro e w5 ⟨rfl, rfl⟩
          clear LA3
          go_wp2_with (fail)
          refine (LA4.out _).mono ?_; rintro e w5 ⟨rfl, rfl⟩
          clear LA4
          go_wp2_with (fail)
          refine (LA5.out _).mono ?_; rintro e w5 ⟨rfl, rfl⟩
          go_wp2
          go_ret
          exact ⟨rfl, hB.out⟩
        | true =>
          clear eI LA3 hq'
          simp only [Bool.true_and] at LA2
          by_cases c2 : l.size + 1 ≤ 12
          · have c3 : (EN.size : Int) ≤ 12 := by omega
            rw [decide_eq_true c2, Bool.true_and] at LA2
            cases dg with
            | false =>
              simp only [Bool.false_and, Bool.not_false] at LA2
              clear hdg' hl
              go_wp2_with (fail)
              refine (LA1.out _).mono ?_; rintro e w5 ⟨rfl, rfl⟩
              clear LA1
              go_wp2_with (fail)
              refine (LA2.out _).mono ?_; rintro e w5 ⟨rfl, rfl⟩
              clear LA2
              go_wp2_with (fail)
              refine (LA4.out _).mono ?_; rintro e w5 ⟨rfl, rfl⟩
              clear LA4
              go_wp2_with (fail)
              refine (LA5.out _).mono ?_; rintro e w5 ⟨rfl, rfl⟩
              go_wp2
              go_ret
              exact ⟨rfl, hB.out⟩
            | true =>
              clear hdg'
              simp only [Bool.true_and] at LA2
              by_cases c4 : L.bs l = [82]
              · have e1 : (l.toList == [82]) = true := by rw [Na.list_at]; exact decide_eq_true c4
                rw [decide_eq_true c4] at LA2
                simp only [Bool.true_or, Bool.not_true] at LA2
                clear hl c4
                go_wp2_with (fail)
                refine (LA1.out _).mono ?_; rintro e w5 ⟨rfl, rfl⟩
                clear LA1
                go_wp2_with (fail)
                refine (LA2.out _).mono ?_; rintro e w5 ⟨rfl, rfl⟩
                clear LA2
                go_wp2_with (fail)
                refine (LA4.out _).mono ?_; rintro e w5 ⟨rfl, rfl⟩
                clear LA4
                go_wp2_with (fail)
                refine (LA5.out _).mono ?_; rintro e w5 ⟨rfl, rfl⟩
                go_wp2
                go_ret
                exact ⟨rfl, hB.out⟩
              · have e1 : (l.toList == [82]) = false := by rw [Na.list_at]; exact decide_eq_false c4
                rw [decide_eq_false c4] at LA2
                simp only [Bool.false_or] at LA2
                by_cases c5 : l.size = 2
                · have c6 : (l.size : Int) = 2 := by omega
                  obtain ⟨x, hx⟩ : ∃ x, (L.bs l)[0]? = some x := ⟨_, List.getElem?_eq_getElem (by rw [L.bs_len]; omega)⟩
                  obtain ⟨y, hy⟩ : ∃ y, (L.bs l)[1]? = some y := ⟨_, List.getElem?_eq_getElem (by rw [L.bs_len]; omega)⟩
                  have gx : (L.bs l).getD 0 0 = x := by rw [List.getD_eq_getElem?_getD, hx]; rfl
                  have gy : (L.bs l).getD 1 0 = y := by rw [List.getD_eq_getElem?_getD, hy]; rfl
                  obtain ⟨x1, x2⟩ := L.at_of hx
                  obtain ⟨y1, y2⟩ := L.at_of hy
                  have x3 : (0 : Int) < (l.size : Int) := by omega
                  have y3 : (1 : Int) < (l.size : Int) := by omega
                  rw [decide_eq_true c5, gx, gy] at LA2
                  simp only [Bool.true_and] at LA2
                  clear hl c4 hx hy gx gy
                  by_cases c7 : x = 82
                  · have c8 : (x == 82) = true := by simpa using c7
                    rw [decide_eq_true c7] at LA2
                    simp only [Bool.true_and] at LA2
                    subst c7
                    rcases (show (y < 48) ∨ (48 ≤ y ∧ y ≤ 57) ∨ (58 ≤ y) by omega) with h | ⟨h, h'⟩ | h
                    · rw [show L.digit y = false by unfold L.digit; simp; omega] at LA2
                      go_wp2_with (fail)
                      refine (LA1.out _).mono ?_; rintro e w5 ⟨rfl, rfl⟩
                      clear LA1
                      go_wp2_with (fail)
                      refine (LA2.out _).mono ?_; rintro e w5 ⟨rfl, rfl⟩
                      clear LA2
                      go_wp2_with (fail)
                      refine (LA4.out _).mono ?_; rintro e w5 ⟨rfl, rfl⟩
                      clear LA4
                      go_wp2_with (fail)
                      refine (LA5.out _).mono ?_; rintro e w5 ⟨rfl, rfl⟩
                      go_wp2
                      go_ret
                      exact ⟨rfl, hB.out⟩
                    · rw [show L.digit y = true by unfold L.digit; simp; omega] at LA2
                      go_wp2_with (fail)
                      refine (LA1.out _).mono ?_; rintro e w5 ⟨rfl, rfl⟩
                      clear LA1
                      go_wp2_with (fail)
                      refine (LA2.out _).mono ?_; rintro e w5 ⟨rfl, rfl⟩
                      clear LA2
                      go_wp2_with (fail)
                      refine (LA4.out _).mono ?_; rintro e w5 ⟨rfl, rfl⟩
                      clear LA4
                      go_wp2_with (fail)
                      refine (LA5.out _).mono ?_; rintro e w5 ⟨rfl, rfl⟩
                      go_wp2
                      go_ret
                      exact ⟨rfl, hB.out⟩
                    · rw [show L.digit y = false by unfold L.digit; simp; omega] at LA2
                      go_wp2_with (fail)
                      refine (LA1.out _).mono ?_; rintro e w5 ⟨rfl, rfl⟩
                      clear LA1
                      go_wp2_with (fail)
                      refine (LA2.out _).mono ?_; rintro e w5 ⟨rfl, rfl⟩
                      clear LA2
                      go_wp2_with (fail)
                      refine (LA4.out _).mono ?_; rintro e w5 ⟨rfl, rfl⟩
                      clear LA4
                      go_wp2_with (fail)
                      refine (LA5.out _).mono ?_; rintro e w5 ⟨rfl, rfl⟩
                      go_wp2
                      go_ret
                      exact ⟨by show Ending.returned (Value.bool (!decide (y ≤ 57))) = _; rw [decide_eq_false (by omega)]; rfl, hB.out⟩
                  · have c8 : (x == 82) = false := by simpa using c7
                    rw [decide_eq_false c7] at LA2
                    simp only [Bool.false_and, Bool.not_false] at LA2
                    go_wp2_with (fail)
                    refine (LA1.out _).mono ?_; rintro e w5 ⟨rfl, rfl⟩
                    clear LA1
                    go_wp2_with (fail)
                    refine (LA2.out _).mono ?_; rintro e w5 ⟨rfl, rfl⟩
                    clear LA2
                    go_wp2_with (fail)
                    refine (LA4.out _).mono ?_; rintro e w5 ⟨rfl, rfl⟩
                    clear LA4
                    go_wp2_with (fail)
                    refine (LA5.out _).mono ?_; rintro e w5 ⟨rfl, rfl⟩
                    go_wp2
                    go_ret
                    exact ⟨rfl, hB.out⟩
                · have c6 : ((l.size : Int) == 2) = false := by simpa using (show ¬ (l.size : Int) = 2 by omega)
                  have c7 : ¬ (l.size : Int) = 2 := by omega
                  rw [decide_eq_false c5] at LA2
                  simp only [Bool.false_and, Bool.not_false] at LA2
                  clear hl c4
                  go_wp2_with (fail)
                  refine (LA1.out _).mono ?_; rintro e w5 ⟨rfl, rfl⟩
                  clear LA1
                  go_wp2_with (fail)
                  refine (LA2.out _).mono ?_; rintro e w5 ⟨rfl, rfl⟩
                  clear LA2
                  go_wp2_with (fail)
                  refine (LA4.out _).mono ?_; rintro e w5 ⟨rfl, rfl⟩
                  clear LA4
                  go_wp2_with (fail)
                  refine (LA5.out _).mono ?_; rintro e w5 ⟨rfl, rfl⟩
                  go_wp2
                  go_ret
                  exact ⟨rfl, hB.out⟩
          · have c3 : ¬ (EN.size : Int) ≤ 12 := by omega
            rw [decide_eq_false c2] at LA2
            simp only [Bool.false_and] at LA2
            clear hdg' hl
            go_wp2_with (fail)
            refine (LA1.out _).mono ?_; rintro e w5 ⟨rfl, rfl⟩
            clear LA1
            go_wp2_with (fail)
            refine (LA2.out _).mono ?_; rintro e w5 ⟨rfl, rfl⟩
            clear LA2
            go_wp2_with (fail)
            refine (LA4.out _).mono ?_; rintro e w5 ⟨rfl, rfl⟩
            clear LA4
            go_wp2_with (fail)
            refine (LA5.out _).mono ?_; rintro e w5 ⟨rfl, rfl⟩
            go_wp2
            go_ret
            exact ⟨rfl, hB.out⟩
end Go.Proofs.YtkkoihhkfophnaaDoor
