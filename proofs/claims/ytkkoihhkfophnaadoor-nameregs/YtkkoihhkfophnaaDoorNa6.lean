/-
  The contract of the document's Of.
-/
import Derived.Test.YtkkoihhkfophnaaDoorNa5
namespace Go.Proofs.YtkkoihhkfophnaaDoor
open Go.RowKit
set_option linter.unusedVariables false
set_option linter.unusedSimpArgs false
set_option maxRecDepth 100000
theorem results_tmp4 {fn : Func} {t u v x : Tmp} (h : fn.results = #[.tmp t, .tmp u, .tmp v, .tmp x]) (tmps : Array Value) (P : Program) (w : World) :
    (results fn tmps).run P w = .ok (.tuple #[tmps.getD t undef, tmps.getD u undef, tmps.getD v undef, tmps.getD x undef]) w := by
  simp [results, h, go_sem]
theorem Na.ms_get (k o : Int) (u : Bool) : Na.ms k o u = Na.get Na.full (k, o, u) := (Na.full_str (k, o, u)).symm
theorem Na.ms_bs (k o : Int) (u : Bool) : L.bs (Na.ms k o u) = Na.mn k o u := by rw [Na.ms_get, Na.full_get]
theorem Na.rof_hit {s : ByteArray} {k o : Int} {u : Bool} (hs : s.size ≠ 0) (h : Na.ms k o u = s) : Na.of (L.bs s) = some (k, o, u) := by
  have h1 : L.bs s = Na.mn k o u := by rw [← h, Na.ms_bs]
  rw [h1]
  refine Na.back fun q => hs ?_
  rw [← L.bs_len, h1, q]; rfl
/-- none of those that have been looked at is s -/
def Na.Past (s : ByteArray) (a b : Nat) : Prop := ∀ k o : Nat, o < 16 → (k < a ∨ (k = a ∧ o < b)) → ∀ u, Na.ms k o u ≠ s
theorem Na.Past.start (s : ByteArray) : Na.Past s 0 0 := fun k o _ h => by omega
theorem Na.Past.step {s : ByteArray} {a b : Nat} (h : Na.Past s a b) (h1 : Na.ms a b false ≠ s) (h2 : Na.ms a b true ≠ s) : Na.Past s a (b + 1) := fun k o ho hk u => by
  by_cases c : k < a ∨ (k = a ∧ o < b)
  · exact h k o ho c u
  · obtain ⟨rfl, rfl⟩ : k = a ∧ o = b := by omega
    cases u
    · exact h1
    · exact h2
theorem Na.Past.row {s : ByteArray} {a : Nat} (h : Na.Past s a 16) : Na.Past s (a + 1) 0 := fun k o ho hk u => h k o ho (by omega) u
theorem Na.Past.done {s : ByteArray} (h : Na.Past s 11 0) : Na.of (L.bs s) = none := by
  cases hq : Na.of (L.bs s) with
  | none => rfl
  | some t =>
    obtain ⟨k, o, u⟩ := t
    obtain ⟨h1, h2⟩ := Na.of_some hq
    obtain ⟨b1, b2⟩ := Na.mn_box (by rw [← h1]; exact h2)
    obtain ⟨a, rfl⟩ := Int.eq_ofNat_of_zero_le b1.1
    obtain ⟨b, rfl⟩ := Int.eq_ofNat_of_zero_le b2.1
    refine absurd ?_ (h a b (by omega) (by omega) u)
    unfold Na.ms
    rw [← h1, L.str_bs]
theorem Na.of_nil {s : ByteArray} (h : s.size = 0) : Na.of (L.bs s) = none := by
  have e : L.bs s = [] := List.eq_nil_of_length_eq_zero (by rw [L.bs_len, h])
  unfold Na.of
  rw [if_pos e]
theorem Na.ms_ne {k o : Int} {u : Bool} {s : ByteArray} (h : Na.ms k o u ≠ s) : ((Na.ms k o u).toList == s.toList) = false := by
  rw [Na.list_eq]; exact decide_eq_false (fun q => h (Na.bs_inj q))
set_option maxHeartbeats 1000000 in
set_option maxRecDepth 100000 in
theorem Na.rof_any (s : ByteArray) (w : World) : Calls Tryd.prog 13 #[.string s] w fun e w' => e = .returned (Na.ofV (Na.of (L.bs s))) ∧ w = w' := by
  by_cases c0 : s.size = 0
  · rw [Na.of_nil c0]
    have e : s = ⟨#[]⟩ := ByteArray.ext (Array.eq_empty_of_size_eq_zero c0)
    subst e
    go_enter Tryd.func13, Tryd.ntmps13
    go_wp2
    (try simp only [Exit.inBlock, Exit.then])
    refine bodyPost_ret (results_tmp4 rfl _ _ _) rfl ?_
    exact ⟨rfl, rfl⟩
  have e0 : (s.toList == []) = false := by
    rw [Na.list_at]
    exact decide_eq_false fun q => c0 (by rw [← L.bs_len, q]; rfl)
  have e00 : s.toList.isEmpty = false := by
    cases h : s.toList with
    | nil => rw [h] at e0; exact e0
    | cons a l => rfl
  obtain ⟨q, hq⟩ : ∃ q, q = Na.of (L.bs s) := ⟨_, rfl⟩
  rw [← hq]
  replace hq := Lib.hid hq
  replace c0 := Lib.hid c0
  go_enter Tryd.func13, Tryd.ntmps13
  go_wp2
  clear e0 e00
  go_loopw [6, 7] (fun i j wr => ∃ a : Nat, a ≤ 11 ∧ i = .int .i64 a ∧ Na.Past s a 0 ∧ w = wr) (fun i _ _ => 11 - (intOf i).toNat)
  case atStart => exact ⟨0, by omega, rfl, Na.Past.start s, rfl⟩
  case round =>
    obtain ⟨a, ha, rfl, hP, rfl⟩ := hrel
    replace hP := Lib.hid hP
    by_cases d1 : a < 11
    · have d2 : (a : Int) < 11 := by omega
      go_wp2
      go_loopw [7] (fun j wr => ∃ b : Nat, b ≤ 16 ∧ j = .int .i64 b ∧ Na.Past s a b ∧ w = wr) (fun j _ => 16 - (intOf j).toNat)
      case atStart => exact ⟨0, by omega, rfl, hP.out, rfl⟩
      case round =>
        clear hP
        obtain ⟨b, hb, rfl, hP, rfl⟩ := hrel
        replace hP := Lib.hid hP
        by_cases f1 : b < 16
        · have f2 : (b : Int) < 16 := by omega
          by_cases c1 : Na.ms a b false = s
          · have R := Lib.hid (show q = some ((a : Int), (b : Int), false) by rw [hq.out]; exact Na.rof_hit c0.out c1)
            have e : ((Na.ms a b false).toList == s.toList) = true := by rw [c1]; simp
            have C := Lib.hid (Na.rmn_any a b false w)
            clear c1 hq
            generalize Na.ms a b false = y at *
            go_wp2_with (fail)
            refine C.out.mono ?_; rintro e w2 ⟨rfl, rfl⟩
            go_wp2
            (try simp only [Exit.inBlock, Exit.then])
            refine bodyPost_ret (results_tmp4 rfl _ _ _) rfl ?_
            exact ⟨by rw [R.out]; rfl, rfl⟩
          · have e : ((Na.ms a b false).toList == s.toList) = false := Na.ms_ne c1
            have C := Lib.hid (Na.rmn_any a b false w)
            by_cases c2 : Na.ms a b true = s
            · have R := Lib.hid (show q = some ((a : Int), (b : Int), true) by rw [hq.out]; exact Na.rof_hit c0.out c2)
              have e' : ((Na.ms a b true).toList == s.toList) = true := by rw [c2]; simp
              have C' := Lib.hid (Na.rmn_any a b true w)
              clear c1 c2 hq
              generalize Na.ms a b false = y at *
              generalize Na.ms a b true = z at *
              go_wp2_with (fail)
              refine C.out.mono ?_; rintro e w2 ⟨rfl, rfl⟩
              go_wp2_with (fail)
              refine C'.out.mono ?_; rintro e w2 ⟨rfl, rfl⟩
              go_wp2
              (try simp only [Exit.inBlock, Exit.then])
              refine bodyPost_ret (results_tmp4 rfl _ _ _) rfl ?_
              exact ⟨by rw [R.out]; rfl, rfl⟩
            · have e' : ((Na.ms a b true).toList == s.toList) = false := Na.ms_ne c2
              have C' := Lib.hid (Na.rmn_any a b true w)
              have R := Lib.hid (hP.out.step c1 c2)
              clear c1 c2 hP
              generalize Na.ms a b false = y at *
              generalize Na.ms a b true = z at *
              go_wp2_with (fail)
              refine C.out.mono ?_; rintro e w2 ⟨rfl, rfl⟩
              go_wp2_with (fail)
              refine C'.out.mono ?_; rintro e w2 ⟨rfl, rfl⟩
              go_wp2
              go_roundw
              case rel => exact ⟨b + 1, by omega, by go_num, R.out, by trivial⟩
              case measure => simp [intOf]; omega
        · have f2 : ¬ (b : Int) < 16 := by omega
          obtain rfl : b = 16 := by omega
          have R := Lib.hid hP.out.row
          clear hP
          go_wp2
          go_roundw
          case rel => exact ⟨a + 1, by omega, by go_num, R.out, by trivial⟩
          case measure => simp [intOf]; omega
    · have d2 : ¬ (a : Int) < 11 := by omega
      obtain rfl : a = 11 := by omega
      have R := Lib.hid (show q = none by rw [hq.out]; exact hP.out.done)
      clear hP hq
      go_wp2
      (try simp only [Exit.inBlock, Exit.then])
      refine bodyPost_ret (results_tmp4 rfl _ _ _) rfl ?_
      exact ⟨by rw [R.out]; rfl, rfl⟩
end Go.Proofs.YtkkoihhkfophnaaDoor
