/-
  IndexFunc, ContainsFunc over the closures of object.May; the closures themselves.
-/
import Derived.Test.YtmdknjfhdmigdaaRows
import Derived.Test.YtmdknjfhdmigdaaOb0
import Derived.Test.YtmdknjfhdmigdaaStill0
import Derived.WalkKit
import Derived.WalkSpells
import Derived.WalkLawsBesides
import Derived.Lib.Hide
import Derived.Deep.Cut
import Derived.BigQuiet
import Derived.LoopTactic
import Derived.Laws.BitsAllLaws
import Derived.ChangeAlike
namespace Go.Proofs.Ytmdknjfhdmigdaa
open Go.RowKit
set_option linter.unusedVariables false
set_option linter.unusedSimpArgs false
set_option maxRecDepth 100000
theorem Ob.ret {a b : Int} (h : a = b) : Ending.returned (Value.int .i64 a) = .returned (.int .i64 b) := by rw [h]
theorem Ob.retB {a b : Bool} (h : a = b) : Ending.returned (Value.bool a) = .returned (.bool b) := by rw [h]
/-- the first one that is asked for -/
def Ob.First (n : Nat) (p : Nat → Bool) (r : Int) : Prop := (∃ k, k < n ∧ p k = true ∧ r = k) ∨ (r = -1 ∧ ∀ k, k < n → p k = false)
theorem Ob.First.has {n : Nat} {p : Nat → Bool} {r : Int} (h : Ob.First n p r) : decide (0 ≤ r) = decide (∃ k, k < n ∧ p k = true) := by
  apply decide_eq_decide.2
  rcases h with ⟨k, h1, h2, h3⟩ | ⟨h1, h2⟩
  · exact ⟨fun _ => ⟨k, h1, h2⟩, fun _ => by omega⟩
  · refine ⟨fun h => by omega, fun ⟨k, h3, h4⟩ => ?_⟩
    rw [h2 k h3] at h4; cases h4
set_option maxRecDepth 100000 in
theorem Ob.index_int {A : Option Addr} {n c : Nat} {ss : List Int} (caps : Array Value) (p : Nat → Bool) (I : Nat → World → Prop) (hS : ∀ k w, I k w → In w A n c ss)
    (hf : ∀ k w, k < n → I k w → Calls Try.prog 39 (#[.int .i64 (ss.getD k 0)] ++ caps) w fun e w' => e = .returned (.bool (p k)) ∧ I (k + 1) w') (w : World) (h0 : I 0 w) :
    Calls Try.prog 53 #[.slice A n c, .func (.func 39) #[] caps] w fun e w' => ∃ r, e = .returned (.int .i64 r) ∧ Ob.First n p r ∧ ∃ k, I k w' := by
  have h := hS 0 w h0
  have hl := h.len
  have hle := h.le
  have hmx := h.max
  unfold maxLen at hmx
  have hn1 : (n : Int) ≤ 9223372036854775807 := by omega
  have hA : n = 0 ∨ ∃ b off, A = some ⟨b, off, none⟩ := (Nat.eq_zero_or_pos n).imp_right h.place
  have H0 := Lib.hid h0
  replace hS := Lib.hid hS
  replace hf := Lib.hid hf
  clear h h0 hmx
  go_enter Try.func53, Try.ntmps53
  go_wp2
  go_loopw [5, 8] (fun _ i wr => ∃ k : Nat, k ≤ n ∧ i = .int .i64 k ∧ (∀ j, j < k → p j = false) ∧ I k wr) (fun _ i _ => n - (intOf i).toNat)
  case atStart => exact ⟨0, Nat.zero_le _, rfl, fun j hj => by omega, H0.out⟩
  case round =>
    obtain ⟨k, hk, rfl, ho, hI⟩ := hrel
    by_cases d1 : k < n
    · have d2 : (k : Int) < n := by omega
      rcases hA with h0 | ⟨b, off, rfl⟩
      · omega
      have g1 := (hS.out k wr hI).at k d1
      have C := Lib.hid (hf.out k wr d1 hI)
      clear hI
      generalize ss.getD k 0 = x at *
      cases q : p k with
      | true =>
        have R := Lib.hid (show Ob.First n p k from Or.inl ⟨k, d1, q, rfl⟩)
        rw [q] at C
        clear ho q
        trace_state
        go_wp2_with (fail)
        trace_state
        refine C.out.mono ?_; rintro e w2 ⟨rfl, hI⟩
        replace hI := Lib.hid hI
        go_wp2
        go_ret
        exact ⟨_, rfl, R.out, _, hI.out⟩
      | false =>
        have R := Lib.hid (show ∀ j, j < k + 1 → p j = false from fun j hj => by
          rcases Nat.lt_or_ge j k with h | h
          · exact ho j h
          · rw [show j = k by omega]; exact q)
        rw [q] at C
        clear ho q
        go_wp2_with (fail)
        refine C.out.mono ?_; rintro e w2 ⟨rfl, hI⟩
        replace hI := Lib.hid hI
        go_wp2
        go_roundw
        case rel => exact ⟨k + 1, by omega, by go_num, R.out, hI.out⟩
        case measure => simp [intOf]; omega
    · have d2 : ¬ (k : Int) < n := by omega
      have R := Lib.hid (show Ob.First n p (-1) from Or.inr ⟨rfl, fun j hj => ho j (by omega)⟩)
      replace hI := Lib.hid hI
      clear ho
      go_wp2
      go_ret
      exact ⟨_, rfl, R.out, _, hI.out⟩
theorem Ob.contains_int {A : Option Addr} {n c : Nat} {ss : List Int} (caps : Array Value) (p : Nat → Bool) (I : Nat → World → Prop) (hS : ∀ k w, I k w → In w A n c ss)
    (hf : ∀ k w, k < n → I k w → Calls Try.prog 39 (#[.int .i64 (ss.getD k 0)] ++ caps) w fun e w' => e = .returned (.bool (p k)) ∧ I (k + 1) w') (w : World) (h0 : I 0 w) :
    Calls Try.prog 41 #[.slice A n c, .func (.func 39) #[] caps] w fun e w' => e = .returned (.bool (decide (∃ k, k < n ∧ p k = true))) ∧ ∃ k, I k w' := by
  have C := Lib.hid (Ob.index_int caps p I hS hf w h0)
  clear hS hf h0
  go_enter Try.func41, Try.ntmps41
  go_wp2_with (fail)
  refine C.out.mono ?_; rintro e w2 ⟨r, rfl, hF, hI⟩
  replace hF := Lib.hid hF.has
  replace hI := Lib.hid hI
  go_wp2
  go_ret
  exact ⟨Ob.retB hF.out, hI.out⟩
set_option maxRecDepth 100000 in
theorem Ob.index_at {A : Option Addr} {n c : Nat} {ys : List Ob.Y} (caps : Array Value) (p : Nat → Bool) (I : Nat → World → Prop) (hS : ∀ k w, I k w → Sy w A n c ys)
    (hf : ∀ k w, k < n → I k w → Calls Try.prog 40 (#[.agg #[.string (Ob.nm ys k), .int .i64 (Ob.pl ys k)]] ++ caps) w fun e w' => e = .returned (.bool (p k)) ∧ I (k + 1) w') (w : World) (h0 : I 0 w) :
    Calls Try.prog 54 #[.slice A n c, .func (.func 40) #[] caps] w fun e w' => ∃ r, e = .returned (.int .i64 r) ∧ Ob.First n p r ∧ ∃ k, I k w' := by
  have h := hS 0 w h0
  have hl := h.len
  have hle := h.le
  have hmx := h.max
  unfold maxLen at hmx
  have hn1 : (n : Int) ≤ 9223372036854775807 := by omega
  have hA : n = 0 ∨ ∃ b off, A = some ⟨b, off, none⟩ := (Nat.eq_zero_or_pos n).imp_right h.place
  have H0 := Lib.hid h0
  replace hS := Lib.hid hS
  replace hf := Lib.hid hf
  clear h h0 hmx
  go_enter Try.func54, Try.ntmps54
  go_wp2
  go_loopw [5, 8] (fun _ i wr => ∃ k : Nat, k ≤ n ∧ i = .int .i64 k ∧ (∀ j, j < k → p j = false) ∧ I k wr) (fun _ i _ => n - (intOf i).toNat)
  case atStart => exact ⟨0, Nat.zero_le _, rfl, fun j hj => by omega, H0.out⟩
  case round =>
    obtain ⟨k, hk, rfl, ho, hI⟩ := hrel
    by_cases d1 : k < n
    · have d2 : (k : Int) < n := by omega
      rcases hA with h0 | ⟨b, off, rfl⟩
      · omega
      have g1 := (hS.out k wr hI).name k d1
      have g2 := (hS.out k wr hI).at k d1
      have C := Lib.hid (hf.out k wr d1 hI)
      clear hI
      generalize Ob.nm ys k = x at *
      generalize Ob.pl ys k = y at *
      cases q : p k with
      | true =>
        have R := Lib.hid (show Ob.First n p k from Or.inl ⟨k, d1, q, rfl⟩)
        rw [q] at C
        clear ho q
        go_wp2_with (fail)
        refine C.out.mono ?_; rintro e w2 ⟨rfl, hI⟩
        replace hI := Lib.hid hI
        go_wp2
        go_ret
        exact ⟨_, rfl, R.out, _, hI.out⟩
      | false =>
        have R := Lib.hid (show ∀ j, j < k + 1 → p j = false from fun j hj => by
          rcases Nat.lt_or_ge j k with h | h
          · exact ho j h
          · rw [show j = k by omega]; exact q)
        rw [q] at C
        clear ho q
        go_wp2_with (fail)
        refine C.out.mono ?_; rintro e w2 ⟨rfl, hI⟩
        replace hI := Lib.hid hI
        go_wp2
        go_roundw
        case rel => exact ⟨k + 1, by omega, by go_num, R.out, hI.out⟩
        case measure => simp [intOf]; omega
    · have d2 : ¬ (k : Int) < n := by omega
      have R := Lib.hid (show Ob.First n p (-1) from Or.inr ⟨rfl, fun j hj => ho j (by omega)⟩)
      replace hI := Lib.hid hI
      clear ho
      go_wp2
      go_ret
      exact ⟨_, rfl, R.out, _, hI.out⟩
theorem Ob.contains_at {A : Option Addr} {n c : Nat} {ys : List Ob.Y} (caps : Array Value) (p : Nat → Bool) (I : Nat → World → Prop) (hS : ∀ k w, I k w → Sy w A n c ys)
    (hf : ∀ k w, k < n → I k w → Calls Try.prog 40 (#[.agg #[.string (Ob.nm ys k), .int .i64 (Ob.pl ys k)]] ++ caps) w fun e w' => e = .returned (.bool (p k)) ∧ I (k + 1) w') (w : World) (h0 : I 0 w) :
    Calls Try.prog 42 #[.slice A n c, .func (.func 40) #[] caps] w fun e w' => e = .returned (.bool (decide (∃ k, k < n ∧ p k = true))) ∧ ∃ k, I k w' := by
  have C := Lib.hid (Ob.index_at caps p I hS hf w h0)
  clear hS hf h0
  go_enter Try.func42, Try.ntmps42
  go_wp2_with (fail)
  refine C.out.mono ?_; rintro e w2 ⟨r, rfl, hF, hI⟩
  replace hF := Lib.hid hF.has
  replace hI := Lib.hid hI
  go_wp2
  go_ret
  exact ⟨Ob.retB hF.out, hI.out⟩
set_option maxRecDepth 100000 in
theorem Ob.index_turn {A : Option Addr} {n c : Nat} {ys : List Ob.Y} (caps : Array Value) (p : Nat → Bool) (I : Nat → World → Prop) (hS : ∀ k w, I k w → Sy w A n c ys)
    (hf : ∀ k w, k < n → I k w → Calls Try.prog 55 (#[.agg #[.string (Ob.nm ys k), .int .i64 (Ob.pl ys k)]] ++ caps) w fun e w' => e = .returned (.bool (p k)) ∧ I (k + 1) w') (w : World) (h0 : I 0 w) :
    Calls Try.prog 54 #[.slice A n c, .func (.func 55) #[] caps] w fun e w' => ∃ r, e = .returned (.int .i64 r) ∧ Ob.First n p r ∧ ∃ k, I k w' := by
  have h := hS 0 w h0
  have hl := h.len
  have hle := h.le
  have hmx := h.max
  unfold maxLen at hmx
  have hn1 : (n : Int) ≤ 9223372036854775807 := by omega
  have hA : n = 0 ∨ ∃ b off, A = some ⟨b, off, none⟩ := (Nat.eq_zero_or_pos n).imp_right h.place
  have H0 := Lib.hid h0
  replace hS := Lib.hid hS
  replace hf := Lib.hid hf
  clear h h0 hmx
  go_enter Try.func54, Try.ntmps54
  go_wp2
  go_loopw [5, 8] (fun _ i wr => ∃ k : Nat, k ≤ n ∧ i = .int .i64 k ∧ (∀ j, j < k → p j = false) ∧ I k wr) (fun _ i _ => n - (intOf i).toNat)
  case atStart => exact ⟨0, Nat.zero_le _, rfl, fun j hj => by omega, H0.out⟩
  case round =>
    obtain ⟨k, hk, rfl, ho, hI⟩ := hrel
    by_cases d1 : k < n
    · have d2 : (k : Int) < n := by omega
      rcases hA with h0 | ⟨b, off, rfl⟩
      · omega
      have g1 := (hS.out k wr hI).name k d1
      have g2 := (hS.out k wr hI).at k d1
      have C := Lib.hid (hf.out k wr d1 hI)
      clear hI
      generalize Ob.nm ys k = x at *
      generalize Ob.pl ys k = y at *
      cases q : p k with
      | true =>
        have R := Lib.hid (show Ob.First n p k from Or.inl ⟨k, d1, q, rfl⟩)
        rw [q] at C
        clear ho q
        go_wp2_with (fail)
        refine C.out.mono ?_; rintro e w2 ⟨rfl, hI⟩
        replace hI := Lib.hid hI
        go_wp2
        go_ret
        exact ⟨_, rfl, R.out, _, hI.out⟩
      | false =>
        have R := Lib.hid (show ∀ j, j < k + 1 → p j = false from fun j hj => by
          rcases Nat.lt_or_ge j k with h | h
          · exact ho j h
          · rw [show j = k by omega]; exact q)
        rw [q] at C
        clear ho q
        go_wp2_with (fail)
        refine C.out.mono ?_; rintro e w2 ⟨rfl, hI⟩
        replace hI := Lib.hid hI
        go_wp2
        go_roundw
        case rel => exact ⟨k + 1, by omega, by go_num, R.out, hI.out⟩
        case measure => simp [intOf]; omega
    · have d2 : ¬ (k : Int) < n := by omega
      have R := Lib.hid (show Ob.First n p (-1) from Or.inr ⟨rfl, fun j hj => ho j (by omega)⟩)
      replace hI := Lib.hid hI
      clear ho
      go_wp2
      go_ret
      exact ⟨_, rfl, R.out, _, hI.out⟩
theorem Ob.contains_turn {A : Option Addr} {n c : Nat} {ys : List Ob.Y} (caps : Array Value) (p : Nat → Bool) (I : Nat → World → Prop) (hS : ∀ k w, I k w → Sy w A n c ys)
    (hf : ∀ k w, k < n → I k w → Calls Try.prog 55 (#[.agg #[.string (Ob.nm ys k), .int .i64 (Ob.pl ys k)]] ++ caps) w fun e w' => e = .returned (.bool (p k)) ∧ I (k + 1) w') (w : World) (h0 : I 0 w) :
    Calls Try.prog 42 #[.slice A n c, .func (.func 55) #[] caps] w fun e w' => e = .returned (.bool (decide (∃ k, k < n ∧ p k = true))) ∧ ∃ k, I k w' := by
  have C := Lib.hid (Ob.index_turn caps p I hS hf w h0)
  clear hS hf h0
  go_enter Try.func42, Try.ntmps42
  go_wp2_with (fail)
  refine C.out.mono ?_; rintro e w2 ⟨r, rfl, hF, hI⟩
  replace hF := Lib.hid hF.has
  replace hI := Lib.hid hI
  go_wp2
  go_ret
  exact ⟨Ob.retB hF.out, hI.out⟩
/-! the closures -/
/-- a site's word leads beyond -/
theorem Ob.beyond_any {w : World} {B E : Nat} {b1 o1 n c : Nat} {V1 V2 : Value} {ws : List Int} (g1 : w.cell? ⟨B, 0, none⟩ = some (.slice (some ⟨b1, o1, none⟩) n c)) (hw : Wo w (some ⟨b1, o1, none⟩) n c ws) {e : Int} (g2 : w.cell? ⟨E, 0, none⟩ = some (.int .i64 e)) (s : Nat) (hs : s < n) :
    Calls Try.prog 39 #[.int .i64 s, .pointer (some ⟨B, 0, none⟩), .pointer (some ⟨E, 0, none⟩)] w fun e' w' => e' = .returned (.bool (decide (e < ws.getD s 0))) ∧ Below w.heap.size w w' := by
  have g3 := hw.at s hs
  have hle := hw.le
  have hmx := hw.max
  unfold maxLen at hmx
  have hs1 : (s : Int) < n := by omega
  have hr := hw.atR (by omega) s
  have hm := Lib.hid (Below.refl w.heap.size w)
  clear hw
  generalize ws.getD s 0 = x at *
  go_enter Try.func39, Try.ntmps39
  go_wp2
  go_quiet (fail)
  go_wp2
  trace_state
  go_ret
  exact ⟨rfl, Bel.drewN hm.out _⟩
end Go.Proofs.Ytmdknjfhdmigdaa
