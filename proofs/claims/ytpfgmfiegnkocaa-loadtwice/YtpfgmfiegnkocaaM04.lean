/-
  Joined: Still0, Ob1, Ch1.
-/
import Derived.StillTailTactics
import Derived.Test.YtpfgmfiegnkocaaRows
import Derived.WalkKit
import Derived.WalkSpells
import Derived.WalkLawsBesides
import Derived.Lib.Hide
import Derived.Deep.Cut
import Derived.BigQuiet
import Derived.LoopTactic
import Derived.Laws.BitsAllLaws
import Derived.ChangeAlike
import Derived.Test.YtpfgmfiegnkocaaOb0
import Derived.Test.YtpfgmfiegnkocaaCh0
/-
  A region that draws its order, whose operations but for a tail only read, behind a wall through which no tactic looks: an operation is taken, or passed over where its guard says no. No Go text is named here.
-/
namespace Go.Proofs.Ytpfgmfiegnkocaa
set_option linter.unusedVariables false
section
variable {P : Program} {ops : Array Oper} {w : World} {Q : Act → Prop} {a : Act} {o : Oper} {rest : List Oper}
structure WS (P : Program) (ops : Array Oper) (w : World) (Q : Act → Prop) (l : List Oper) (a : Act) : Prop where
  out : wpStill P ops w Q l a
theorem WS.skip (hw : Region.wanted o (yielded ops a.tmps) = false) (h : WS P ops w Q rest (a.put o.dst undef)) : WS P ops w Q (o :: rest) a := by
  constructor
  unfold wpStill
  rw [if_neg (by rw [hw]; decide)]
  exact h.out
theorem WS.want (hw : Region.wanted o (yielded ops a.tmps) = true) (h : ∀ K : Act → Prop, (∀ a, WS P ops w Q rest a → K a) → o.still P a w K) : WS P ops w Q (o :: rest) a := by
  constructor
  unfold wpStill
  rw [if_pos hw]
  exact Oper.still_mono (fun _ h => h.out) (h (WS P ops w Q rest) (fun _ h => h))
theorem WS.step (hg : o.guard = none) (h : ∀ K : Act → Prop, (∀ a, WS P ops w Q rest a → K a) → o.still P a w K) : WS P ops w Q (o :: rest) a :=
  WS.want (by simp [Region.wanted, hg]) h
theorem WS.nil (h : Q a) : WS P ops w Q [] a := ⟨h⟩
theorem WS.start {id : Nat} {Q : Exit → Act → World → Prop} {a : Act} {w : World} {l : List Oper} (n : Nat) (hm : P.follows .mixedOrders = true) (hB : Region.lexTailB .any l.toArray n = true)
    (h : ∀ w', w' = w.drew → WS P l.toArray w' (fun a' => wpList P l.toArray Q (l.drop n) a' w') (l.take n) a) : (Code.region id l.toArray true).wp P Q a w :=
  wp_region_still_tail n hm hB (h _ rfl).out
end
end Go.Proofs.Ytpfgmfiegnkocaa
/-
  IndexFunc, ContainsFunc over the closures of object.May; the closures themselves.
-/
namespace Go.Proofs.Ytpfgmfiegnkocaa
open Go.RowKit
set_option linter.unusedVariables false
set_option linter.unusedSimpArgs false
set_option maxRecDepth 100000
set_option maxRecDepth 100000
theorem Ob.ret {a b : Int} (h : a = b) : Ending.returned (Value.int .i64 a) = .returned (.int .i64 b) := by rw [h]
theorem Ob.retB {a b : Bool} (h : a = b) : Ending.returned (Value.bool a) = .returned (.bool b) := by rw [h]
/-- the first one that is asked for -/
def Ob.First (n : Nat) (p : Nat → Bool) (r : Int) : Prop := (∃ k, k < n ∧ p k = true ∧ r = k) ∨ (r = -1 ∧ ∀ k, k < n → p k = false)
theorem Ob.First.has {n : Nat} {p : Nat → Bool} {r : Int} (h : Ob.First n p r) : decide (0 ≤ r) = decide (∃ k, k < n ∧ p k = true) := by
  apply decide_eq_decide.2
  rcases h with ⟨k, h1, h2, h3⟩ | ⟨h1, h2⟩
  · exact ⟨fun _ => ⟨k, h1, h2⟩, fun _ => by omega⟩
  · refine ⟨fun h => by omega, fun ⟨k, h3, h4⟩ => ?_⟩
    rw [h2 k h3] at h4; cases h4
set_option maxRecDepth 100000 in
theorem Ob.index_int {A : Option Addr} {n c : Nat} {ss : List Int} (caps : Array Value) (p : Nat → Bool) (I : Nat → World → Prop) (hS : ∀ k w, I k w → In w A n c ss)
    (hf : ∀ k w, k < n → I k w → Calls Try.prog 40 (#[.int .i64 (ss.getD k 0)] ++ caps) w fun e w' => e = .returned (.bool (p k)) ∧ I (k + 1) w') (w : World) (h0 : I 0 w) :
    Calls Try.prog 50 #[.slice A n c, .func (.func 40) #[] caps] w fun e w' => ∃ r, e = .returned (.int .i64 r) ∧ Ob.First n p r ∧ ∃ k, I k w' := by
  have h := hS 0 w h0
  have hl := h.len
  have hle := h.le
  have hmx := h.max
  unfold maxLen at hmx
  have hn1 : (n : Int) ≤ 9223372036854775807 := by omega
  have hA : n = 0 ∨ ∃ b off, A = some ⟨b, off, none⟩ := (Nat.eq_zero_or_pos n).imp_right h.place
  have H0 := Lib.hid h0
  replace hS := Lib.hid hS
  replace hf := Lib.hid hf
  clear h h0 hmx
  go_enter Try.func50, Try.ntmps50
  go_wp2
  go_loopw [5, 8] (fun _ i wr => ∃ k : Nat, k ≤ n ∧ i = .int .i64 k ∧ (∀ j, j < k → p j = false) ∧ I k wr) (fun _ i _ => n - (intOf i).toNat)
  case atStart => exact ⟨0, Nat.zero_le _, rfl, fun j hj => by omega, H0.out⟩
  case round =>
    obtain ⟨k, hk, rfl, ho, hI⟩ := hrel
    by_cases d1 : k < n
    · have d2 : (k : Int) < n := by omega
      rcases hA with h0 | ⟨b, off, rfl⟩
      · omega
      have g1 := (hS.out k wr hI).at k d1
      have C := Lib.hid (hf.out k wr d1 hI)
      clear hI
      generalize ss.getD k 0 = x at *
      cases q : p k with
      | true =>
        have R := Lib.hid (show Ob.First n p k from Or.inl ⟨k, d1, q, rfl⟩)
        rw [q] at C
        clear ho q
        trace_state
        go_wp2_with (fail)
        trace_state
        refine C.out.mono ?_; rintro e w2 ⟨rfl, hI⟩
        replace hI := Lib.hid hI
        go_wp2
        go_ret
        exact ⟨_, rfl, R.out, _, hI.out⟩
      | false =>
        have R := Lib.hid (show ∀ j, j < k + 1 → p j = false from fun j hj => by
          rcases Nat.lt_or_ge j k with h | h
          · exact ho j h
          · rw [show j = k by omega]; exact q)
        rw [q] at C
        clear ho q
        go_wp2_with (fail)
        refine C.out.mono ?_; rintro e w2 ⟨rfl, hI⟩
        replace hI := Lib.hid hI
        go_wp2
        go_roundw
        case rel => exact ⟨k + 1, by omega, by go_num, R.out, hI.out⟩
        case measure => simp [intOf]; omega
    · have d2 : ¬ (k : Int) < n := by omega
      have R := Lib.hid (show Ob.First n p (-1) from Or.inr ⟨rfl, fun j hj => ho j (by omega)⟩)
      replace hI := Lib.hid hI
      clear ho
      go_wp2
      go_ret
      exact ⟨_, rfl, R.out, _, hI.out⟩
theorem Ob.contains_int {A : Option Addr} {n c : Nat} {ss : List Int} (caps : Array Value) (p : Nat → Bool) (I : Nat → World → Prop) (hS : ∀ k w, I k w → In w A n c ss)
    (hf : ∀ k w, k < n → I k w → Calls Try.prog 40 (#[.int .i64 (ss.getD k 0)] ++ caps) w fun e w' => e = .returned (.bool (p k)) ∧ I (k + 1) w') (w : World) (h0 : I 0 w) :
    Calls Try.prog 42 #[.slice A n c, .func (.func 40) #[] caps] w fun e w' => e = .returned (.bool (decide (∃ k, k < n ∧ p k = true))) ∧ ∃ k, I k w' := by
  have C := Lib.hid (Ob.index_int caps p I hS hf w h0)
  clear hS hf h0
  go_enter Try.func42, Try.ntmps42
  go_wp2_with (fail)
  refine C.out.mono ?_; rintro e w2 ⟨r, rfl, hF, hI⟩
  replace hF := Lib.hid hF.has
  replace hI := Lib.hid hI
  go_wp2
  go_ret
  exact ⟨Ob.retB hF.out, hI.out⟩
set_option maxRecDepth 100000 in
theorem Ob.index_at {A : Option Addr} {n c : Nat} {ys : List Ob.Y} (caps : Array Value) (p : Nat → Bool) (I : Nat → World → Prop) (hS : ∀ k w, I k w → Sy w A n c ys)
    (hf : ∀ k w, k < n → I k w → Calls Try.prog 41 (#[.agg #[.string (Ob.nm ys k), .int .i64 (Ob.pl ys k)]] ++ caps) w fun e w' => e = .returned (.bool (p k)) ∧ I (k + 1) w') (w : World) (h0 : I 0 w) :
    Calls Try.prog 51 #[.slice A n c, .func (.func 41) #[] caps] w fun e w' => ∃ r, e = .returned (.int .i64 r) ∧ Ob.First n p r ∧ ∃ k, I k w' := by
  have h := hS 0 w h0
  have hl := h.len
  have hle := h.le
  have hmx := h.max
  unfold maxLen at hmx
  have hn1 : (n : Int) ≤ 9223372036854775807 := by omega
  have hA : n = 0 ∨ ∃ b off, A = some ⟨b, off, none⟩ := (Nat.eq_zero_or_pos n).imp_right h.place
  have H0 := Lib.hid h0
  replace hS := Lib.hid hS
  replace hf := Lib.hid hf
  clear h h0 hmx
  go_enter Try.func51, Try.ntmps51
  go_wp2
  go_loopw [5, 8] (fun _ i wr => ∃ k : Nat, k ≤ n ∧ i = .int .i64 k ∧ (∀ j, j < k → p j = false) ∧ I k wr) (fun _ i _ => n - (intOf i).toNat)
  case atStart => exact ⟨0, Nat.zero_le _, rfl, fun j hj => by omega, H0.out⟩
  case round =>
    obtain ⟨k, hk, rfl, ho, hI⟩ := hrel
    by_cases d1 : k < n
    · have d2 : (k : Int) < n := by omega
      rcases hA with h0 | ⟨b, off, rfl⟩
      · omega
      have g1 := (hS.out k wr hI).name k d1
      have g2 := (hS.out k wr hI).at k d1
      have C := Lib.hid (hf.out k wr d1 hI)
      clear hI
      generalize Ob.nm ys k = x at *
      generalize Ob.pl ys k = y at *
      cases q : p k with
      | true =>
        have R := Lib.hid (show Ob.First n p k from Or.inl ⟨k, d1, q, rfl⟩)
        rw [q] at C
        clear ho q
        go_wp2_with (fail)
        refine C.out.mono ?_; rintro e w2 ⟨rfl, hI⟩
        replace hI := Lib.hid hI
        go_wp2
        go_ret
        exact ⟨_, rfl, R.out, _, hI.out⟩
      | false =>
        have R := Lib.hid (show ∀ j, j < k + 1 → p j = false from fun j hj => by
          rcases Nat.lt_or_ge j k with h | h
          · exact ho j h
          · rw [show j = k by omega]; exact q)
        rw [q] at C
        clear ho q
        go_wp2_with (fail)
        refine C.out.mono ?_; rintro e w2 ⟨rfl, hI⟩
        replace hI := Lib.hid hI
        go_wp2
        go_roundw
        case rel => exact ⟨k + 1, by omega, by go_num, R.out, hI.out⟩
        case measure => simp [intOf]; omega
    · have d2 : ¬ (k : Int) < n := by omega
      have R := Lib.hid (show Ob.First n p (-1) from Or.inr ⟨rfl, fun j hj => ho j (by omega)⟩)
      replace hI := Lib.hid hI
      clear ho
      go_wp2
      go_ret
      exact ⟨_, rfl, R.out, _, hI.out⟩
theorem Ob.contains_at {A : Option Addr} {n c : Nat} {ys : List Ob.Y} (caps : Array Value) (p : Nat → Bool) (I : Nat → World → Prop) (hS : ∀ k w, I k w → Sy w A n c ys)
    (hf : ∀ k w, k < n → I k w → Calls Try.prog 41 (#[.agg #[.string (Ob.nm ys k), .int .i64 (Ob.pl ys k)]] ++ caps) w fun e w' => e = .returned (.bool (p k)) ∧ I (k + 1) w') (w : World) (h0 : I 0 w) :
    Calls Try.prog 43 #[.slice A n c, .func (.func 41) #[] caps] w fun e w' => e = .returned (.bool (decide (∃ k, k < n ∧ p k = true))) ∧ ∃ k, I k w' := by
  have C := Lib.hid (Ob.index_at caps p I hS hf w h0)
  clear hS hf h0
  go_enter Try.func43, Try.ntmps43
  go_wp2_with (fail)
  refine C.out.mono ?_; rintro e w2 ⟨r, rfl, hF, hI⟩
  replace hF := Lib.hid hF.has
  replace hI := Lib.hid hI
  go_wp2
  go_ret
  exact ⟨Ob.retB hF.out, hI.out⟩
set_option maxRecDepth 100000 in
theorem Ob.index_turn {A : Option Addr} {n c : Nat} {ys : List Ob.Y} (caps : Array Value) (p : Nat → Bool) (I : Nat → World → Prop) (hS : ∀ k w, I k w → Sy w A n c ys)
    (hf : ∀ k w, k < n → I k w → Calls Try.prog 52 (#[.agg #[.string (Ob.nm ys k), .int .i64 (Ob.pl ys k)]] ++ caps) w fun e w' => e = .returned (.bool (p k)) ∧ I (k + 1) w') (w : World) (h0 : I 0 w) :
    Calls Try.prog 51 #[.slice A n c, .func (.func 52) #[] caps] w fun e w' => ∃ r, e = .returned (.int .i64 r) ∧ Ob.First n p r ∧ ∃ k, I k w' := by
  have h := hS 0 w h0
  have hl := h.len
  have hle := h.le
  have hmx := h.max
  unfold maxLen at hmx
  have hn1 : (n : Int) ≤ 9223372036854775807 := by omega
  have hA : n = 0 ∨ ∃ b off, A = some ⟨b, off, none⟩ := (Nat.eq_zero_or_pos n).imp_right h.place
  have H0 := Lib.hid h0
  replace hS := Lib.hid hS
  replace hf := Lib.hid hf
  clear h h0 hmx
  go_enter Try.func51, Try.ntmps51
  go_wp2
  go_loopw [5, 8] (fun _ i wr => ∃ k : Nat, k ≤ n ∧ i = .int .i64 k ∧ (∀ j, j < k → p j = false) ∧ I k wr) (fun _ i _ => n - (intOf i).toNat)
  case atStart => exact ⟨0, Nat.zero_le _, rfl, fun j hj => by omega, H0.out⟩
  case round =>
    obtain ⟨k, hk, rfl, ho, hI⟩ := hrel
    by_cases d1 : k < n
    · have d2 : (k : Int) < n := by omega
      rcases hA with h0 | ⟨b, off, rfl⟩
      · omega
      have g1 := (hS.out k wr hI).name k d1
      have g2 := (hS.out k wr hI).at k d1
      have C := Lib.hid (hf.out k wr d1 hI)
      clear hI
      generalize Ob.nm ys k = x at *
      generalize Ob.pl ys k = y at *
      cases q : p k with
      | true =>
        have R := Lib.hid (show Ob.First n p k from Or.inl ⟨k, d1, q, rfl⟩)
        rw [q] at C
        clear ho q
        go_wp2_with (fail)
        refine C.out.mono ?_; rintro e w2 ⟨rfl, hI⟩
        replace hI := Lib.hid hI
        go_wp2
        go_ret
        exact ⟨_, rfl, R.out, _, hI.out⟩
      | false =>
        have R := Lib.hid (show ∀ j, j < k + 1 → p j = false from fun j hj => by
          rcases Nat.lt_or_ge j k with h | h
          · exact ho j h
          · rw [show j = k by omega]; exact q)
        rw [q] at C
        clear ho q
        go_wp2_with (fail)
        refine C.out.mono ?_; rintro e w2 ⟨rfl, hI⟩
        replace hI := Lib.hid hI
        go_wp2
        go_roundw
        case rel => exact ⟨k + 1, by omega, by go_num, R.out, hI.out⟩
        case measure => simp [intOf]; omega
    · have d2 : ¬ (k : Int) < n := by omega
      have R := Lib.hid (show Ob.First n p (-1) from Or.inr ⟨rfl, fun j hj => ho j (by omega)⟩)
      replace hI := Lib.hid hI
      clear ho
      go_wp2
      go_ret
      exact ⟨_, rfl, R.out, _, hI.out⟩
theorem Ob.contains_turn {A : Option Addr} {n c : Nat} {ys : List Ob.Y} (caps : Array Value) (p : Nat → Bool) (I : Nat → World → Prop) (hS : ∀ k w, I k w → Sy w A n c ys)
    (hf : ∀ k w, k < n → I k w → Calls Try.prog 52 (#[.agg #[.string (Ob.nm ys k), .int .i64 (Ob.pl ys k)]] ++ caps) w fun e w' => e = .returned (.bool (p k)) ∧ I (k + 1) w') (w : World) (h0 : I 0 w) :
    Calls Try.prog 43 #[.slice A n c, .func (.func 52) #[] caps] w fun e w' => e = .returned (.bool (decide (∃ k, k < n ∧ p k = true))) ∧ ∃ k, I k w' := by
  have C := Lib.hid (Ob.index_turn caps p I hS hf w h0)
  clear hS hf h0
  go_enter Try.func43, Try.ntmps43
  go_wp2_with (fail)
  refine C.out.mono ?_; rintro e w2 ⟨r, rfl, hF, hI⟩
  replace hF := Lib.hid hF.has
  replace hI := Lib.hid hI
  go_wp2
  go_ret
  exact ⟨Ob.retB hF.out, hI.out⟩
/-! the closures -/
/-- a site's word leads beyond -/
theorem Ob.beyond_any {w : World} {B E : Nat} {b1 o1 n c : Nat} {V1 V2 : Value} {ws : List Int} (g1 : w.cell? ⟨B, 0, none⟩ = some (.slice (some ⟨b1, o1, none⟩) n c)) (hw : Wo w (some ⟨b1, o1, none⟩) n c ws) {e : Int} (g2 : w.cell? ⟨E, 0, none⟩ = some (.int .i64 e)) (s : Nat) (hs : s < n) :
    Calls Try.prog 40 #[.int .i64 s, .pointer (some ⟨B, 0, none⟩), .pointer (some ⟨E, 0, none⟩)] w fun e' w' => e' = .returned (.bool (decide (e < ws.getD s 0))) ∧ Below w.heap.size w w' := by
  have g3 := hw.at s hs
  have hle := hw.le
  have hmx := hw.max
  unfold maxLen at hmx
  have hs1 : (s : Int) < n := by omega
  have hr := hw.atR (by omega) s
  have hm := Lib.hid (Below.refl w.heap.size w)
  clear hw
  generalize ws.getD s 0 = x at *
  go_enter Try.func40, Try.ntmps40
  go_wp2
  go_quiet (fail)
  go_wp2
  trace_state
  go_ret
  exact ⟨rfl, Bel.drewN hm.out _⟩
end Go.Proofs.Ytpfgmfiegnkocaa
/-
  The contracts of the small functions: sitesMayBe, Clone, Reverse; the document's Rise, Same, Fit; few, short of the laws.
-/
namespace Go.Proofs.Ytpfgmfiegnkocaa
open Go.RowKit
set_option linter.unusedVariables false
set_option linter.unusedSimpArgs false
set_option maxRecDepth 100000
theorem Ch.info32 : (Try.prog.info? 39).map (fun i => (i.zero, i.size, i.bytes)) = some (some (.int .u32 0), 1, 4) := by kernel_rfl
theorem Ch.info64 : (Try.prog.info? 3).map (fun i => (i.zero, i.size, i.bytes)) = some (some (.int .i64 0), 1, 8) := by kernel_rfl
theorem Ch.before {m : Nat} {ss : List Int} {k : Nat} (h : ∀ j, j < k → Ch.OkAt m ss j) (hk : Ch.OkAt m ss k) : ∀ j, j < k + 1 → Ch.OkAt m ss j := fun j hj => by
  rcases Nat.lt_or_ge j k with c | c
  · exact h j c
  · rw [show j = k by omega]; exact hk
theorem retB {a b : Bool} (h : a = b) : Ending.returned (Value.bool a) = .returned (.bool b) := by rw [h]
set_option maxRecDepth 100000 in
theorem Ch.sites_any {w : World} {A : Option Addr} {n c : Nat} {ss : List Int} (h : In w A n c ss) (m : Nat) (hm : m ≤ 1000000) :
    Calls Try.prog 49 #[.slice A n c, .int .i64 m] w fun e w' => e = .returned (.bool (decide (Ch.Rises m ss))) ∧ w = w' := by
  have hl := h.len
  have hle := h.le
  have hmx := h.max
  unfold maxLen at hmx
  have hn1 : (n : Int) ≤ 9223372036854775807 := by omega
  have hA : n = 0 ∨ ∃ b off, A = some ⟨b, off, none⟩ := (Nat.eq_zero_or_pos n).imp_right h.place
  have H := Lib.hid h
  clear h hmx
  go_enter Try.func49, Try.ntmps49
  go_wp2
  go_loopw [5, 7, 10] (fun l _ i wr => ∃ k : Nat, k ≤ n ∧ i = .int .i64 k ∧ l = .int .i64 (Ch.prev ss k) ∧ (∀ j, j < k → Ch.OkAt m ss j) ∧ w = wr) (fun _ _ i _ => n - (intOf i).toNat)
  case atStart => exact ⟨0, Nat.zero_le _, rfl, rfl, fun j hj => by omega, rfl⟩
  case round =>
    obtain ⟨k, hk, rfl, rfl, ho, rfl⟩ := hrel
    by_cases d1 : k < n
    · have d2 : (k : Int) < n := by omega
      rcases hA with h0 | ⟨b, off, rfl⟩
      · omega
      have g1 := H.out.at k d1
      have hN := Lib.hid (show Ch.prev ss (k + 1) = ss.getD k 0 from rfl)
      by_cases c : Ch.OkAt m ss k
      · have R := Lib.hid (Ch.before ho c)
        obtain ⟨c1, c2, c3⟩ := c
        clear ho
        generalize ss.getD k 0 = x at *
        generalize Ch.prev ss k = y at *
        have e1 : ¬ x ≤ y := by omega
        have e2 : ¬ (m : Int) ≤ x := by omega
        have e3 : ¬ 65534 < x := by omega
        clear c1 c2 c3
        go_wp2
        go_roundw
        case rel => exact ⟨k + 1, by omega, by go_num, by rw [hN.out], R.out, by trivial⟩
        case measure => simp [intOf]; omega
      · have R := Lib.hid (show ¬ Ch.Rises m ss from fun r => c (r k (by omega)))
        unfold Ch.OkAt at c
        clear ho
        generalize ss.getD k 0 = x at *
        generalize Ch.prev ss k = y at *
        by_cases e1 : x ≤ y
        · go_wp2
          go_ret
          exact ⟨retB (decide_eq_false R.out).symm, rfl⟩
        · by_cases e2 : (m : Int) ≤ x
          · go_wp2
            go_ret
            exact ⟨retB (decide_eq_false R.out).symm, rfl⟩
          · have e3 : 65534 < x := by omega
            clear c
            go_wp2
            go_ret
            exact ⟨retB (decide_eq_false R.out).symm, rfl⟩
    · have R := Lib.hid (show Ch.Rises m ss from fun j hj => ho j (by omega))
      have hkn : ¬ (k : Int) < n := by omega
      clear ho
      go_wp2
      go_ret
      exact ⟨retB (decide_eq_true R.out).symm, rfl⟩
set_option maxRecDepth 100000 in
theorem Ch.clone_any {w : World} {A : Option Addr} {n c : Nat} {ws : List Int} (h : Wo w A n c ws) (hn : n ≤ 1000000) :
    Calls Try.prog 37 #[.slice A n c] w fun e w' => ∃ A' c', e = .returned (.slice A' n c') ∧ On 39 .u32 w.heap.size A' n c' ws w' ∧ Below w.heap.size w w' := by
  cases A with
  | none =>
    have hc := h.nil rfl
    have hle := h.le
    have hl := h.len
    obtain rfl : n = 0 := by omega
    obtain rfl : c = 0 := by omega
    obtain rfl : ws = [] := List.eq_nil_of_length_eq_zero hl
    have hnil : ∀ W, (binOp .eql 22 (.slice none 0 0) (.slice none 0 0)).run Try.prog W = .ok (.bool true) W := fun W => Lib.run_eql_slice_nil_nil W _ _ Try.underlying22
    go_enter Try.func37, Try.ntmps37
    go_wp2
    go_ret
    exact ⟨none, 0, rfl, On.none _ _ _ _, Below.refl _ _⟩
  | some ad =>
    have hl := h.len
    have hB := ((Kept.refl w).alloc #[] 39).below
    have hW := Lib.hid (h.below hB)
    have hO := Lib.hid (Ow.new 39 .u32 w w.heap.size (Nat.le_refl _))
    have hs := hB.size
    replace hB := Lib.hid hB
    clear h
    have hnil : ∀ W, (binOp .eql 22 (.slice (some ad) n c) (.slice none 0 0)).run Try.prog W = .ok (.bool false) W := fun W => Lib.run_eql_slice_nil W _ _ (some ad) n c _ _ Try.underlying22
    go_enter Try.func37, Try.ntmps37
    go_wp2_with (with_reducible refine append_row (o := ⟨some 7, _, _, _, _, _⟩) Try.underlying22 Ch.info32 (by omega) rfl (.tmp 5) (.tmp 6) rfl w.heap.size w.heap.size 0 0 [] rfl hO.out _ n c ws rfl hW.out (by omega) hs ?_; intro g3 cap3 w3 hO3 hG3)
    rw [List.nil_append, Nat.zero_add] at hO3
    have hB3 := Lib.hid (hB.out.grown hG3 hs (fun q e => by cases e; exact Nat.le_refl _))
    replace hO3 := Lib.hid hO3
    clear hG3 hO hB hW hs
    go_wp2
    go_ret
    exact ⟨_, cap3, rfl, hO3.out, hB3.out⟩
/-- the first i and the last i have changed their places -/
def Ch.Half (n i : Nat) (xs ys : List Int) : Prop := ys.length = n ∧ ∀ q, q < n → ys.getD q 0 = if q < i ∨ n - i ≤ q then xs.getD (n - 1 - q) 0 else xs.getD q 0
theorem Ch.half_step {n i : Nat} {xs ys : List Int} (h : Ch.Half n i xs ys) (hi : i + 1 + i < n) : Ch.Half n (i + 1) xs ((ys.set i (ys.getD (n - 1 - i) 0)).set (n - 1 - i) (ys.getD i 0)) := by
  obtain ⟨h1, h2⟩ := h
  refine ⟨by simp [h1], fun q hq => ?_⟩
  rw [Ch.getD_set, Ch.getD_set, List.length_set, h1, h2 i (by omega), h2 (n - 1 - i) (by omega), h2 q hq]
  by_cases c1 : q = i
  · subst c1
    rw [if_neg (by omega), if_pos (by omega), if_neg (by omega), if_pos (by omega)]
  · by_cases c2 : q = n - 1 - i
    · subst c2
      rw [if_pos (by omega), if_neg (by omega), if_pos (by omega), show n - 1 - (n - 1 - i) = i by omega]
    · rw [if_neg (by omega), if_neg (by omega)]
      by_cases c3 : q < i ∨ n - i ≤ q
      · rw [if_pos c3, if_pos (by omega)]
      · rw [if_neg c3, if_neg (by omega)]
theorem Ch.half_done {n i : Nat} {xs ys : List Int} (h : Ch.Half n i xs ys) (hx : xs.length = n) (hi : n ≤ i + 1 + i) : ys = xs.reverse := by
  obtain ⟨h1, h2⟩ := h
  refine Ch.ext (by simp [h1, hx]) (fun q hq => ?_)
  rw [List.length_reverse] at hq
  rw [h2 q (by omega)]
  have e : xs.reverse.getD q 0 = xs.getD (n - 1 - q) 0 := by
    rw [List.getD_eq_getElem?_getD, List.getElem?_reverse hq, List.getD_eq_getElem?_getD, hx]
  rw [e]
  split
  · rfl
  · rw [show n - 1 - q = q by omega]
end Go.Proofs.Ytpfgmfiegnkocaa
