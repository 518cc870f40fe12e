/-
  Joined: Ob1, Ob2.
-/
import Derived.Test.YtpfejjkoemnmiaaRows
import Derived.WalkKit
import Derived.WalkSpells
import Derived.WalkLawsBesides
import Derived.Lib.Hide
import Derived.Deep.Cut
import Derived.BigQuiet
import Derived.LoopTactic
import Derived.Laws.BitsAllLaws
import Derived.ChangeAlike
import Derived.StillTailTactics
import Derived.Test.YtpfejjkoemnmiaaOb0
import Derived.Test.YtpfejjkoemnmiaaM05
import Derived.Test.YtpfejjkoemnmiaaM08
import Derived.Test.YtpfejjkoemnmiaaLe1
/-
  IndexFunc, ContainsFunc over the closures of object.May; the closures themselves.
-/
namespace Go.Proofs.Ytpfejjkoemnmiaa
open Go.RowKit
set_option linter.unusedVariables false
set_option linter.unusedSimpArgs false
set_option maxRecDepth 100000
set_option maxRecDepth 100000
theorem Ob.ret {a b : Int} (h : a = b) : Ending.returned (Value.int .i64 a) = .returned (.int .i64 b) := by rw [h]
theorem Ob.retB {a b : Bool} (h : a = b) : Ending.returned (Value.bool a) = .returned (.bool b) := by rw [h]
/-- the first one that is asked for -/
def Ob.First (n : Nat) (p : Nat → Bool) (r : Int) : Prop := (∃ k, k < n ∧ p k = true ∧ r = k) ∨ (r = -1 ∧ ∀ k, k < n → p k = false)
theorem Ob.First.has {n : Nat} {p : Nat → Bool} {r : Int} (h : Ob.First n p r) : decide (0 ≤ r) = decide (∃ k, k < n ∧ p k = true) := by
  apply decide_eq_decide.2
  rcases h with ⟨k, h1, h2, h3⟩ | ⟨h1, h2⟩
  · exact ⟨fun _ => ⟨k, h1, h2⟩, fun _ => by omega⟩
  · refine ⟨fun h => by omega, fun ⟨k, h3, h4⟩ => ?_⟩
    rw [h2 k h3] at h4; cases h4
set_option maxRecDepth 100000 in
theorem Ob.index_int {A : Option Addr} {n c : Nat} {ss : List Int} (caps : Array Value) (p : Nat → Bool) (I : Nat → World → Prop) (hS : ∀ k w, I k w → In w A n c ss)
    (hf : ∀ k w, k < n → I k w → Calls Try.prog 44 (#[.int .i64 (ss.getD k 0)] ++ caps) w fun e w' => e = .returned (.bool (p k)) ∧ I (k + 1) w') (w : World) (h0 : I 0 w) :
    Calls Try.prog 62 #[.slice A n c, .func (.func 44) #[] caps] w fun e w' => ∃ r, e = .returned (.int .i64 r) ∧ Ob.First n p r ∧ ∃ k, I k w' := by
  have h := hS 0 w h0
  have hl := h.len
  have hle := h.le
  have hmx := h.max
  unfold maxLen at hmx
  have hn1 : (n : Int) ≤ 9223372036854775807 := by omega
  have hA : n = 0 ∨ ∃ b off, A = some ⟨b, off, none⟩ := (Nat.eq_zero_or_pos n).imp_right h.place
  have H0 := Lib.hid h0
  replace hS := Lib.hid hS
  replace hf := Lib.hid hf
  clear h h0 hmx
  go_enter Try.func62, Try.ntmps62
  go_wp2
  go_loopw [5, 8] (fun _ i wr => ∃ k : Nat, k ≤ n ∧ i = .int .i64 k ∧ (∀ j, j < k → p j = false) ∧ I k wr) (fun _ i _ => n - (intOf i).toNat)
  case atStart => exact ⟨0, Nat.zero_le _, rfl, fun j hj => by omega, H0.out⟩
  case round =>
    obtain ⟨k, hk, rfl, ho, hI⟩ := hrel
    by_cases d1 : k < n
    · have d2 : (k : Int) < n := by omega
      rcases hA with h0 | ⟨b, off, rfl⟩
      · omega
      have g1 := (hS.out k wr hI).at k d1
      have C := Lib.hid (hf.out k wr d1 hI)
      clear hI
      generalize ss.getD k 0 = x at *
      cases q : p k with
      | true =>
        have R := Lib.hid (show Ob.First n p k from Or.inl ⟨k, d1, q, rfl⟩)
        rw [q] at C
        clear ho q
        trace_state
        go_wp2_with (fail)
        trace_state
        refine C.out.mono ?_; rintro e w2 ⟨rfl, hI⟩
        replace hI := Lib.hid hI
        go_wp2
        go_ret
        exact ⟨_, rfl, R.out, _, hI.out⟩
      | false =>
        have R := Lib.hid (show ∀ j, j < k + 1 → p j = false from fun j hj => by
          rcases Nat.lt_or_ge j k with h | h
          · exact ho j h
          · rw [show j = k by omega]; exact q)
        rw [q] at C
        clear ho q
        go_wp2_with (fail)
        refine C.out.mono ?_; rintro e w2 ⟨rfl, hI⟩
        replace hI := Lib.hid hI
        go_wp2
        go_roundw
        case rel => exact ⟨k + 1, by omega, by go_num, R.out, hI.out⟩
        case measure => simp [intOf]; omega
    · have d2 : ¬ (k : Int) < n := by omega
      have R := Lib.hid (show Ob.First n p (-1) from Or.inr ⟨rfl, fun j hj => ho j (by omega)⟩)
      replace hI := Lib.hid hI
      clear ho
      go_wp2
      go_ret
      exact ⟨_, rfl, R.out, _, hI.out⟩
theorem Ob.contains_int {A : Option Addr} {n c : Nat} {ss : List Int} (caps : Array Value) (p : Nat → Bool) (I : Nat → World → Prop) (hS : ∀ k w, I k w → In w A n c ss)
    (hf : ∀ k w, k < n → I k w → Calls Try.prog 44 (#[.int .i64 (ss.getD k 0)] ++ caps) w fun e w' => e = .returned (.bool (p k)) ∧ I (k + 1) w') (w : World) (h0 : I 0 w) :
    Calls Try.prog 46 #[.slice A n c, .func (.func 44) #[] caps] w fun e w' => e = .returned (.bool (decide (∃ k, k < n ∧ p k = true))) ∧ ∃ k, I k w' := by
  have C := Lib.hid (Ob.index_int caps p I hS hf w h0)
  clear hS hf h0
  go_enter Try.func46, Try.ntmps46
  go_wp2_with (fail)
  refine C.out.mono ?_; rintro e w2 ⟨r, rfl, hF, hI⟩
  replace hF := Lib.hid hF.has
  replace hI := Lib.hid hI
  go_wp2
  go_ret
  exact ⟨Ob.retB hF.out, hI.out⟩
set_option maxRecDepth 100000 in
theorem Ob.index_at {A : Option Addr} {n c : Nat} {ys : List Ob.Y} (caps : Array Value) (p : Nat → Bool) (I : Nat → World → Prop) (hS : ∀ k w, I k w → Sy w A n c ys)
    (hf : ∀ k w, k < n → I k w → Calls Try.prog 45 (#[.agg #[.string (Ob.nm ys k), .int .i64 (Ob.pl ys k)]] ++ caps) w fun e w' => e = .returned (.bool (p k)) ∧ I (k + 1) w') (w : World) (h0 : I 0 w) :
    Calls Try.prog 63 #[.slice A n c, .func (.func 45) #[] caps] w fun e w' => ∃ r, e = .returned (.int .i64 r) ∧ Ob.First n p r ∧ ∃ k, I k w' := by
  have h := hS 0 w h0
  have hl := h.len
  have hle := h.le
  have hmx := h.max
  unfold maxLen at hmx
  have hn1 : (n : Int) ≤ 9223372036854775807 := by omega
  have hA : n = 0 ∨ ∃ b off, A = some ⟨b, off, none⟩ := (Nat.eq_zero_or_pos n).imp_right h.place
  have H0 := Lib.hid h0
  replace hS := Lib.hid hS
  replace hf := Lib.hid hf
  clear h h0 hmx
  go_enter Try.func63, Try.ntmps63
  go_wp2
  go_loopw [5, 8] (fun _ i wr => ∃ k : Nat, k ≤ n ∧ i = .int .i64 k ∧ (∀ j, j < k → p j = false) ∧ I k wr) (fun _ i _ => n - (intOf i).toNat)
  case atStart => exact ⟨0, Nat.zero_le _, rfl, fun j hj => by omega, H0.out⟩
  case round =>
    obtain ⟨k, hk, rfl, ho, hI⟩ := hrel
    by_cases d1 : k < n
    · have d2 : (k : Int) < n := by omega
      rcases hA with h0 | ⟨b, off, rfl⟩
      · omega
      have g1 := (hS.out k wr hI).name k d1
      have g2 := (hS.out k wr hI).at k d1
      have C := Lib.hid (hf.out k wr d1 hI)
      clear hI
      generalize Ob.nm ys k = x at *
      generalize Ob.pl ys k = y at *
      cases q : p k with
      | true =>
        have R := Lib.hid (show Ob.First n p k from Or.inl ⟨k, d1, q, rfl⟩)
        rw [q] at C
        clear ho q
        go_wp2_with (fail)
        refine C.out.mono ?_; rintro e w2 ⟨rfl, hI⟩
        replace hI := Lib.hid hI
        go_wp2
        go_ret
        exact ⟨_, rfl, R.out, _, hI.out⟩
      | false =>
        have R := Lib.hid (show ∀ j, j < k + 1 → p j = false from fun j hj => by
          rcases Nat.lt_or_ge j k with h | h
          · exact ho j h
          · rw [show j = k by omega]; exact q)
        rw [q] at C
        clear ho q
        go_wp2_with (fail)
        refine C.out.mono ?_; rintro e w2 ⟨rfl, hI⟩
        replace hI := Lib.hid hI
        go_wp2
        go_roundw
        case rel => exact ⟨k + 1, by omega, by go_num, R.out, hI.out⟩
        case measure => simp [intOf]; omega
    · have d2 : ¬ (k : Int) < n := by omega
      have R := Lib.hid (show Ob.First n p (-1) from Or.inr ⟨rfl, fun j hj => ho j (by omega)⟩)
      replace hI := Lib.hid hI
      clear ho
      go_wp2
      go_ret
      exact ⟨_, rfl, R.out, _, hI.out⟩
theorem Ob.contains_at {A : Option Addr} {n c : Nat} {ys : List Ob.Y} (caps : Array Value) (p : Nat → Bool) (I : Nat → World → Prop) (hS : ∀ k w, I k w → Sy w A n c ys)
    (hf : ∀ k w, k < n → I k w → Calls Try.prog 45 (#[.agg #[.string (Ob.nm ys k), .int .i64 (Ob.pl ys k)]] ++ caps) w fun e w' => e = .returned (.bool (p k)) ∧ I (k + 1) w') (w : World) (h0 : I 0 w) :
    Calls Try.prog 47 #[.slice A n c, .func (.func 45) #[] caps] w fun e w' => e = .returned (.bool (decide (∃ k, k < n ∧ p k = true))) ∧ ∃ k, I k w' := by
  have C := Lib.hid (Ob.index_at caps p I hS hf w h0)
  clear hS hf h0
  go_enter Try.func47, Try.ntmps47
  go_wp2_with (fail)
  refine C.out.mono ?_; rintro e w2 ⟨r, rfl, hF, hI⟩
  replace hF := Lib.hid hF.has
  replace hI := Lib.hid hI
  go_wp2
  go_ret
  exact ⟨Ob.retB hF.out, hI.out⟩
set_option maxRecDepth 100000 in
theorem Ob.index_turn {A : Option Addr} {n c : Nat} {ys : List Ob.Y} (caps : Array Value) (p : Nat → Bool) (I : Nat → World → Prop) (hS : ∀ k w, I k w → Sy w A n c ys)
    (hf : ∀ k w, k < n → I k w → Calls Try.prog 64 (#[.agg #[.string (Ob.nm ys k), .int .i64 (Ob.pl ys k)]] ++ caps) w fun e w' => e = .returned (.bool (p k)) ∧ I (k + 1) w') (w : World) (h0 : I 0 w) :
    Calls Try.prog 63 #[.slice A n c, .func (.func 64) #[] caps] w fun e w' => ∃ r, e = .returned (.int .i64 r) ∧ Ob.First n p r ∧ ∃ k, I k w' := by
  have h := hS 0 w h0
  have hl := h.len
  have hle := h.le
  have hmx := h.max
  unfold maxLen at hmx
  have hn1 : (n : Int) ≤ 9223372036854775807 := by omega
  have hA : n = 0 ∨ ∃ b off, A = some ⟨b, off, none⟩ := (Nat.eq_zero_or_pos n).imp_right h.place
  have H0 := Lib.hid h0
  replace hS := Lib.hid hS
  replace hf := Lib.hid hf
  clear h h0 hmx
  go_enter Try.func63, Try.ntmps63
  go_wp2
  go_loopw [5, 8] (fun _ i wr => ∃ k : Nat, k ≤ n ∧ i = .int .i64 k ∧ (∀ j, j < k → p j = false) ∧ I k wr) (fun _ i _ => n - (intOf i).toNat)
  case atStart => exact ⟨0, Nat.zero_le _, rfl, fun j hj => by omega, H0.out⟩
  case round =>
    obtain ⟨k, hk, rfl, ho, hI⟩ := hrel
    by_cases d1 : k < n
    · have d2 : (k : Int) < n := by omega
      rcases hA with h0 | ⟨b, off, rfl⟩
      · omega
      have g1 := (hS.out k wr hI).name k d1
      have g2 := (hS.out k wr hI).at k d1
      have C := Lib.hid (hf.out k wr d1 hI)
      clear hI
      generalize Ob.nm ys k = x at *
      generalize Ob.pl ys k = y at *
      cases q : p k with
      | true =>
        have R := Lib.hid (show Ob.First n p k from Or.inl ⟨k, d1, q, rfl⟩)
        rw [q] at C
        clear ho q
        go_wp2_with (fail)
        refine C.out.mono ?_; rintro e w2 ⟨rfl, hI⟩
        replace hI := Lib.hid hI
        go_wp2
        go_ret
        exact ⟨_, rfl, R.out, _, hI.out⟩
      | false =>
        have R := Lib.hid (show ∀ j, j < k + 1 → p j = false from fun j hj => by
          rcases Nat.lt_or_ge j k with h | h
          · exact ho j h
          · rw [show j = k by omega]; exact q)
        rw [q] at C
        clear ho q
        go_wp2_with (fail)
        refine C.out.mono ?_; rintro e w2 ⟨rfl, hI⟩
        replace hI := Lib.hid hI
        go_wp2
        go_roundw
        case rel => exact ⟨k + 1, by omega, by go_num, R.out, hI.out⟩
        case measure => simp [intOf]; omega
    · have d2 : ¬ (k : Int) < n := by omega
      have R := Lib.hid (show Ob.First n p (-1) from Or.inr ⟨rfl, fun j hj => ho j (by omega)⟩)
      replace hI := Lib.hid hI
      clear ho
      go_wp2
      go_ret
      exact ⟨_, rfl, R.out, _, hI.out⟩
theorem Ob.contains_turn {A : Option Addr} {n c : Nat} {ys : List Ob.Y} (caps : Array Value) (p : Nat → Bool) (I : Nat → World → Prop) (hS : ∀ k w, I k w → Sy w A n c ys)
    (hf : ∀ k w, k < n → I k w → Calls Try.prog 64 (#[.agg #[.string (Ob.nm ys k), .int .i64 (Ob.pl ys k)]] ++ caps) w fun e w' => e = .returned (.bool (p k)) ∧ I (k + 1) w') (w : World) (h0 : I 0 w) :
    Calls Try.prog 47 #[.slice A n c, .func (.func 64) #[] caps] w fun e w' => e = .returned (.bool (decide (∃ k, k < n ∧ p k = true))) ∧ ∃ k, I k w' := by
  have C := Lib.hid (Ob.index_turn caps p I hS hf w h0)
  clear hS hf h0
  go_enter Try.func47, Try.ntmps47
  go_wp2_with (fail)
  refine C.out.mono ?_; rintro e w2 ⟨r, rfl, hF, hI⟩
  replace hF := Lib.hid hF.has
  replace hI := Lib.hid hI
  go_wp2
  go_ret
  exact ⟨Ob.retB hF.out, hI.out⟩
/-! the closures -/
/-- a site's word leads beyond -/
theorem Ob.beyond_any {w : World} {B E : Nat} {b1 o1 n c : Nat} {V1 V2 : Value} {ws : List Int} (g1 : w.cell? ⟨B, 0, none⟩ = some (.slice (some ⟨b1, o1, none⟩) n c)) (hw : Wo w (some ⟨b1, o1, none⟩) n c ws) {e : Int} (g2 : w.cell? ⟨E, 0, none⟩ = some (.int .i64 e)) (s : Nat) (hs : s < n) :
    Calls Try.prog 44 #[.int .i64 s, .pointer (some ⟨B, 0, none⟩), .pointer (some ⟨E, 0, none⟩)] w fun e' w' => e' = .returned (.bool (decide (e < ws.getD s 0))) ∧ Below w.heap.size w w' := by
  have g3 := hw.at s hs
  have hle := hw.le
  have hmx := hw.max
  unfold maxLen at hmx
  have hs1 : (s : Int) < n := by omega
  have hr := hw.atR (by omega) s
  have hm := Lib.hid (Below.refl w.heap.size w)
  clear hw
  generalize ws.getD s 0 = x at *
  go_enter Try.func44, Try.ntmps44
  go_wp2
  go_quiet (fail)
  go_wp2
  trace_state
  go_ret
  exact ⟨rfl, Bel.drewN hm.out _⟩
end Go.Proofs.Ytpfejjkoemnmiaa
/-
  The closures of object.May that ask names; object.May.
-/
namespace Go.Proofs.Ytpfejjkoemnmiaa
open Go.RowKit
set_option linter.unusedVariables false
set_option linter.unusedSimpArgs false
set_option maxRecDepth 100000
theorem Below.newCell {w : World} {p : Addr} {v : Value} (h : w.cell? p = some v) (o : Obj) : (w.alloc o).cell? p = some v :=
  (World.cell?_of_block (Below.heap_alloc w o p.block (World.block_lt_of_cell? w p h))).trans h
/-- a place beyond, or none -/
theorem Ob.nowhere_any {w : World} {E : Nat} {e : Int} (s : ByteArray) (a : Int) (g : w.cell? ⟨E, 0, none⟩ = some (.int .i64 e)) :
    Calls Try.prog 45 #[.agg #[.string s, .int .i64 a], .pointer (some ⟨E, 0, none⟩)] w fun e' w' => e' = .returned (.bool (!decide (0 ≤ a ∧ a ≤ e ∧ a % 4 = 0))) ∧ Below w.heap.size w w' := by
  have g2 := Below.newCell g (.cells #[.string s, .int .i64 a] 54)
  have hm := Lib.hid ((Kept.refl w).alloc #[.string s, .int .i64 a] 54).below
  clear g
  obtain ⟨q, hq⟩ : ∃ q, q = !decide (0 ≤ a ∧ a ≤ e ∧ a % 4 = 0) := ⟨_, rfl⟩
  rw [← hq]
  by_cases c1 : a < 0
  · have R := Lib.hid (show q = true by rw [hq, decide_eq_false (by omega)]; rfl)
    clear hq
    go_enter Try.func45, Try.ntmps45
    go_wp2
    go_ret
    exact ⟨Ob.retB R.out.symm, hm.out⟩
  · by_cases c2 : e < a
    · have R := Lib.hid (show q = true by rw [hq, decide_eq_false (by omega)]; rfl)
      clear hq
      go_enter Try.func45, Try.ntmps45
      go_wp2
      go_ret
      exact ⟨Ob.retB R.out.symm, hm.out⟩
    · by_cases c3 : a % 4 = 0
      · have R := Lib.hid (show q = false by rw [hq, decide_eq_true (by omega)]; rfl)
        clear hq
        go_enter Try.func45, Try.ntmps45
        go_wp2
        go_ret
        exact ⟨Ob.retB R.out.symm, hm.out⟩
      · have R := Lib.hid (show q = true by rw [hq, decide_eq_false (by omega)]; rfl)
        have c4 : (a % 4 != 0) = true := by simpa using c3
        have c5 : (a % 4 == 0) = false := by simpa using c3
        clear hq
        go_enter Try.func45, Try.ntmps45
        go_wp2
        go_ret
        exact ⟨Ob.retB R.out.symm, hm.out⟩
theorem Ob.wrongInTurn_any (w : World) :
    Calls Try.prog 48 #[] w fun e w' => e = .returned (.func (.func 64) #[] #[.pointer (some ⟨w.heap.size, 0, none⟩)]) ∧ w' = w.alloc (.cells #[.string Ob.e0] 9) := by
  have e : Ob.e0 = { data := #[] } := rfl
  rw [e]
  go_enter Try.func48, Try.ntmps48
  go_wp2
  go_ret
  exact ⟨rfl, rfl⟩
/-- the closure that has the name ahead -/
theorem Ob.turn_any {w : World} {G : Nat} {p : ByteArray} (hG : Has G #[.string p] 9 w) (s : ByteArray) (a : Int) (hs : s.size ≤ 1000000) :
    Calls Try.prog 64 #[.agg #[.string s, .int .i64 a], .pointer (some ⟨G, 0, none⟩)] w fun e w' => e = .returned (.bool (!decide (L.name (L.bs s) = true ∧ Ob.bl p s = true))) ∧ Has G #[.string s] 9 w' ∧ But G w w' := by
  have hG1 := hG.alloc (.cells #[.string s, .int .i64 a] 54)
  have hm := Lib.hid (((But.refl G w).setCell 0 (.string s)).trans (((Kept.refl _).alloc #[.string s, .int .i64 a] 54).but G))
  have g1 := hG1.cell 0 (.string p) rfl
  have g2 := hG1.free 0
  have hG2 := Lib.hid (show Has G #[.string s] 9 _ from (hG.set 0 (.string s)).alloc (.cells #[.string s, .int .i64 a] 54))
  have C := Lib.hid (fun w => L.name_any s hs w)
  have hlt := hG.lt
  have hne : (G = w.heap.size) = False := eq_false (by omega)
  clear hG hG1
  obtain ⟨q, hq⟩ : ∃ q, q = !decide (L.name (L.bs s) = true ∧ Ob.bl p s = true) := ⟨_, rfl⟩
  rw [← hq]
  cases c1 : L.name (L.bs s) with
  | false =>
    have R := Lib.hid (show q = true by rw [hq, decide_eq_false (by rw [c1]; simp)]; rfl)
    rw [c1] at C
    clear hq
    go_enter Try.func64, Try.ntmps64
    go_wp2_with (fail)
    refine (C.out _).mono ?_; rintro e w2 ⟨rfl, rfl⟩
    go_wp2
    go_ret
    exact ⟨Ob.retB R.out.symm, hG2.out, hm.out⟩
  | true =>
    rw [c1] at C
    cases c2 : Ob.bl p s with
    | true =>
      have R := Lib.hid (show q = false by rw [hq, decide_eq_true ⟨c1, c2⟩]; rfl)
      have c3 := Ob.le_not c2
      clear hq
      go_enter Try.func64, Try.ntmps64
      go_wp2_with (fail)
      refine (C.out _).mono ?_; rintro e w2 ⟨rfl, rfl⟩
      go_wp2
      go_ret
      exact ⟨Ob.retB R.out.symm, hG2.out, hm.out⟩
    | false =>
      have R := Lib.hid (show q = true by rw [hq, decide_eq_false (by rw [c2]; simp)]; rfl)
      have c3 := Ob.le_yes c2
      clear hq
      go_enter Try.func64, Try.ntmps64
      go_wp2_with (fail)
      refine (C.out _).mono ?_; rintro e w2 ⟨rfl, rfl⟩
      go_wp2
      go_ret
      exact ⟨Ob.retB R.out.symm, hG2.out, hm.out⟩
end Go.Proofs.Ytpfejjkoemnmiaa
