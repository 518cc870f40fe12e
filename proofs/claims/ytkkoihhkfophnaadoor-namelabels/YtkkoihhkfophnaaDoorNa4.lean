/-
  The contracts of RegName and Reg, the program's and the document's.
-/
import Derived.Test.YtkkoihhkfophnaaDoorNa3
import Derived.Lib.ItoaWalk
namespace Go.Proofs.YtkkoihhkfophnaaDoor
open Go.RowKit
set_option linter.unusedVariables false
set_option linter.unusedSimpArgs false
set_option maxRecDepth 100000
theorem Na.rn_out {n : Int} (h : n < 0 ∨ 15 < n) : Na.rn n = [] := by unfold Na.rn; rw [if_pos h]
def Na.rs (n : Int) : ByteArray := strOfNums (Na.rn n)
theorem Na.retS {a b : ByteArray} (h : a = b) : Ending.returned (Value.string a) = .returned (.string b) := by rw [h]
set_option maxRecDepth 100000 in
theorem Na.regName_in (n : Nat) (h : n < 16) (w : World) : Calls Tryd.prog 18 #[.int .i64 n] w fun e w' => e = .returned (.string (Na.rs n)) ∧ w = w' := by
  rcases (show n = 0 ∨ n = 1 ∨ n = 2 ∨ n = 3 ∨ n = 4 ∨ n = 5 ∨ n = 6 ∨ n = 7 ∨ n = 8 ∨ n = 9 ∨ n = 10 ∨ n = 11 ∨ n = 12 ∨ n = 13 ∨ n = 14 ∨ n = 15 by omega) with rfl | rfl | rfl | rfl | rfl | rfl | rfl | rfl | rfl | rfl | rfl | rfl | rfl | rfl | rfl | rfl
  all_goals
    go_enter Tryd.func18, Tryd.ntmps18
    go_wp2
    go_ret
    exact ⟨Na.retS (by decide +kernel), rfl⟩
theorem Na.regName_any (n : Int) (w : World) : Calls Tryd.prog 18 #[.int .i64 n] w fun e w' => e = .returned (.string (Na.rs n)) ∧ w = w' := by
  by_cases c : n < 0
  · have e : Na.rs n = ⟨#[]⟩ := by unfold Na.rs; rw [Na.rn_out (Or.inl c)]; rfl
    rw [e]
    go_enter Tryd.func18, Tryd.ntmps18
    go_wp2
    go_ret
    exact ⟨rfl, rfl⟩
  · by_cases c2 : 15 < n
    · have e : Na.rs n = ⟨#[]⟩ := by unfold Na.rs; rw [Na.rn_out (Or.inr c2)]; rfl
      have c3 : n ≥ 16 := by omega
      rw [e]
      go_enter Tryd.func18, Tryd.ntmps18
      go_wp2
      go_ret
      exact ⟨rfl, rfl⟩
    · obtain ⟨m, rfl⟩ := Int.eq_ofNat_of_zero_le (show 0 ≤ n by omega)
      exact Na.regName_in m (by omega) w
set_option maxRecDepth 100000 in
theorem Na.rregName_any (n : Int) (w : World) : Calls Tryd.prog 19 #[.int .i64 n] w fun e w' => e = .returned (.string (Na.rs n)) ∧ Below w.heap.size w w' := by
  by_cases c : n < 0
  · have e : Na.rs n = ⟨#[]⟩ := by unfold Na.rs; rw [Na.rn_out (Or.inl c)]; rfl
    rw [e]
    go_enter Tryd.func19, Tryd.ntmps19
    go_wp2
    go_ret
    exact ⟨rfl, Below.refl _ _⟩
  by_cases c2 : 15 < n
  · have e : Na.rs n = ⟨#[]⟩ := by unfold Na.rs; rw [Na.rn_out (Or.inr c2)]; rfl
    rw [e]
    have c3 : n > 15 := c2
    go_enter Tryd.func19, Tryd.ntmps19
    go_wp2
    go_ret
    exact ⟨rfl, Below.refl _ _⟩
  by_cases c4 : 9 < n
  · have e : Na.rs n = ⟨#[82, 49]⟩ ++ strOfNums [48 + (n - 10)] := by
      refine Na.bs_inj ?_
      unfold Na.rs Na.rn
      rw [if_neg (by omega), if_pos c4, L.bs_append, L.bs_str _ (by simp; omega), L.bs_str _ (by simp; omega)]
      rfl
    rw [e]
    clear e
    have hY := Lib.hid (Rw.one (L := 256) (Has.new #[.int .u8 (48 + (n - 10))] 5 w) (by omega) (by omega))
    have hB := Lib.hid (((Kept.refl w).alloc #[.int .u8 (48 + (n - 10))] 5).below)
    have hz : (strOfNums [48 + (n - 10)]).size = 1 := by rw [strOfNums_size]; rfl
    have c5 : n > 9 := c4
    go_enter Tryd.func19, Tryd.ntmps19
    go_wp2_with (first | (with_reducible refine want_do (o := ⟨some 16, _, _, _, _, _⟩) rfl (exec_text Tryd.underlying35 Tryd.underlying5 Tryd.underlying9 (.tmp 15) rfl rfl hY.out) ?_) | fail)
    go_ret
    exact ⟨rfl, hB.out⟩
  · have e : Na.rs n = ⟨#[82]⟩ ++ strOfNums [48 + n] := by
      refine Na.bs_inj ?_
      unfold Na.rs Na.rn
      rw [if_neg (by omega), if_neg c4, L.bs_append, L.bs_str _ (by simp; omega), L.bs_str _ (by simp; omega)]
      rfl
    rw [e]
    clear e
    have hY := Lib.hid (Rw.one (L := 256) (Has.new #[.int .u8 (48 + n)] 5 w) (by omega) (by omega))
    have hB := Lib.hid (((Kept.refl w).alloc #[.int .u8 (48 + n)] 5).below)
    have hz : (strOfNums [48 + n]).size = 1 := by rw [strOfNums_size]; rfl
    have c5 : ¬ n > 9 := c4
    go_enter Tryd.func19, Tryd.ntmps19
    go_wp2_with (first | (with_reducible refine want_do (o := ⟨some 22, _, _, _, _, _⟩) rfl (exec_text Tryd.underlying35 Tryd.underlying5 Tryd.underlying9 (.tmp 21) rfl rfl hY.out) ?_) | fail)
    go_ret
    exact ⟨rfl, hB.out⟩
/-- what Reg hands back -/
def Na.regV : Option Int → Value
  | some n => .tuple #[.int .i64 n, .bool true]
  | none => .tuple #[.int .i64 0, .bool false]
theorem Na.reg_hit {s : ByteArray} {k : Nat} (hk : k < 16) (h : Na.rs k = s) : Na.reg (L.bs s) = some (k : Int) := by
  have hm : (k : Int) ∈ Na.sixteen := by unfold Na.sixteen; simp only [List.mem_cons, List.not_mem_nil, or_false]; omega
  have h1 := (Na.reg_back k hm).1
  have h2 : L.bs s = Na.rn k := by rw [← h]; unfold Na.rs; refine L.bs_str _ ?_; revert hm; generalize (k : Int) = z; revert z; decide
  rw [h2, h1]
theorem Na.reg_miss {s : ByteArray} (h : ∀ k : Nat, k < 16 → Na.rs k ≠ s) : Na.reg (L.bs s) = none := by
  cases hq : Na.reg (L.bs s) with
  | none => rfl
  | some n =>
    obtain ⟨h1, h2⟩ := Na.reg_some hq
    have h3 : 0 ≤ n ∧ n < 16 := by revert h2; unfold Na.sixteen; simp only [List.mem_cons, List.not_mem_nil, or_false]; omega
    obtain ⟨m, rfl⟩ := Int.eq_ofNat_of_zero_le h3.1
    refine absurd ?_ (h m (by omega))
    unfold Na.rs
    rw [← h1, L.str_bs]
set_option maxRecDepth 100000 in
theorem Na.reg_any (s : ByteArray) (w : World) : Calls Tryd.prog 10 #[.string s] w fun e w' => e = .returned (Na.regV (Na.reg (L.bs s))) ∧ w = w' := by
  obtain ⟨q, hq⟩ : ∃ q, q = Na.reg (L.bs s) := ⟨_, rfl⟩
  rw [← hq]
  replace hq := Lib.hid hq
  go_enter Tryd.func10, Tryd.ntmps10
  go_wp2
  go_loopw [4, 5] (fun _ i wr => ∃ k : Nat, k ≤ 16 ∧ i = .int .i64 k ∧ (∀ j, j < k → Na.rs j ≠ s) ∧ w = wr) (fun _ i _ => 16 - (intOf i).toNat)
  case atStart => exact ⟨0, by omega, rfl, fun j hj => by omega, rfl⟩
  case round =>
    obtain ⟨k, hk, rfl, ht, rfl⟩ := hrel
    by_cases d1 : k < 16
    · have d2 : (k : Int) < 16 := by omega
      have d3 : (k : Int) < 100 := by omega
      by_cases c : Na.rs k = s
      · have R := Lib.hid (show q = some (k : Int) by rw [hq.out]; exact Na.reg_hit d1 c)
        have e : ((Na.rs k).toList == s.toList) = true := by rw [c]; simp
        clear ht c hq
        obtain ⟨y, hy⟩ : ∃ y, Na.rs k = y := ⟨_, rfl⟩
        have C := Lib.hid (Na.regName_any k w)
        rw [hy] at C e
        clear hy
        go_wp2_with (fail)
        refine C.out.mono ?_; rintro e w2 ⟨rfl, rfl⟩
        go_wp2
        go_ret2
        exact ⟨by rw [R.out]; rfl, rfl⟩
      · have e : ((Na.rs k).toList == s.toList) = false := by
          rw [Na.list_eq]; exact decide_eq_false (fun q => c (Na.bs_inj q))
        have R := Lib.hid (show ∀ j, j < k + 1 → Na.rs j ≠ s from fun j hj => by
          by_cases e : j = k
          · rw [e]; exact c
          · exact ht j (by omega))
        clear ht c
        obtain ⟨y, hy⟩ : ∃ y, Na.rs k = y := ⟨_, rfl⟩
        have C := Lib.hid (Na.regName_any k w)
        rw [hy] at C e
        clear hy
        go_wp2_with (fail)
        refine C.out.mono ?_; rintro e w2 ⟨rfl, rfl⟩
        go_wp2
        go_roundw
        case rel => exact ⟨k + 1, by omega, by go_num, R.out, by trivial⟩
        case measure => simp [intOf]; omega
    · have d2 : ¬ (k : Int) < 16 := by omega
      have R := Lib.hid (show q = none by rw [hq.out]; exact Na.reg_miss fun j hj => ht j (by omega))
      clear ht hq
      go_wp2
      go_ret2
      exact ⟨by rw [R.out]; rfl, rfl⟩
set_option maxRecDepth 100000 in
theorem Na.rreg_any (s : ByteArray) (w : World) : Calls Tryd.prog 11 #[.string s] w fun e w' => e = .returned (Na.regV (Na.reg (L.bs s))) ∧ Below w.heap.size w w' := by
  obtain ⟨q, hq⟩ : ∃ q, q = Na.reg (L.bs s) := ⟨_, rfl⟩
  rw [← hq]
  replace hq := Lib.hid hq
  go_enter Tryd.func11, Tryd.ntmps11
  go_wp2
  go_loopw [4] (fun i wr => ∃ k : Nat, k ≤ 16 ∧ i = .int .i64 k ∧ (∀ j, j < k → Na.rs j ≠ s) ∧ Below w.heap.size w wr) (fun i _ => 16 - (intOf i).toNat)
  case atStart => exact ⟨0, by omega, rfl, fun j hj => by omega, Below.refl _ _⟩
  case round =>
    obtain ⟨k, hk, rfl, ht, hB⟩ := hrel
    replace hB := Lib.hid hB
    by_cases d1 : k < 16
    · have d2 : (k : Int) < 16 := by omega
      by_cases c : Na.rs k = s
      · have R := Lib.hid (show q = some (k : Int) by rw [hq.out]; exact Na.reg_hit d1 c)
        have e : ((Na.rs k).toList == s.toList) = true := by rw [c]; simp
        clear ht c hq
        obtain ⟨y, hy⟩ : ∃ y, Na.rs k = y := ⟨_, rfl⟩
        have C := Lib.hid (Na.rregName_any k wr)
        rw [hy] at C e
        clear hy
        go_wp2_with (fail)
        refine C.out.mono ?_; rintro e w2 ⟨rfl, hB2⟩
        replace hB2 := Lib.hid (Bel.trans hB.out hB2)
        go_wp2
        go_ret2
        exact ⟨by rw [R.out]; rfl, hB2.out⟩
      · have e : ((Na.rs k).toList == s.toList) = false := by
          rw [Na.list_eq]; exact decide_eq_false (fun q => c (Na.bs_inj q))
        have R := Lib.hid (show ∀ j, j < k + 1 → Na.rs j ≠ s from fun j hj => by
          by_cases e : j = k
          · rw [e]; exact c
          · exact ht j (by omega))
        clear ht c
        obtain ⟨y, hy⟩ : ∃ y, Na.rs k = y := ⟨_, rfl⟩
        have C := Lib.hid (Na.rregName_any k wr)
        rw [hy] at C e
        clear hy
        go_wp2_with (fail)
        refine C.out.mono ?_; rintro e w2 ⟨rfl, hB2⟩
        replace hB2 := Lib.hid (Bel.trans hB.out hB2)
        go_wp2
        go_roundw
        case rel => exact ⟨k + 1, by omega, by go_num, R.out, hB2.out⟩
        case measure => simp [intOf]; omega
    · have d2 : ¬ (k : Int) < 16 := by omega
      have R := Lib.hid (show q = none by rw [hq.out]; exact Na.reg_miss fun j hj => ht j (by omega))
      clear ht hq
      go_wp2
      go_ret2
      exact ⟨by rw [R.out]; rfl, hB.out⟩
end Go.Proofs.YtkkoihhkfophnaaDoor
