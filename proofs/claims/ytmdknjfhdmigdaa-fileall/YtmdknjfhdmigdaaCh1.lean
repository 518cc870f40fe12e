/-
  The contracts of the small functions: sitesMayBe, Clone, Reverse; the document's Rise, Same, Fit; few, short of the laws.
-/
import Derived.Test.YtmdknjfhdmigdaaRows
import Derived.Test.YtmdknjfhdmigdaaCh0
import Derived.Test.YtmdknjfhdmigdaaStill0
import Derived.WalkKit
import Derived.WalkSpells
import Derived.WalkLawsBesides
import Derived.Lib.Hide
import Derived.Deep.Cut
import Derived.BigQuiet
import Derived.LoopTactic
import Derived.Laws.BitsAllLaws
import Derived.ChangeAlike
namespace Go.Proofs.Ytmdknjfhdmigdaa
open Go.RowKit
set_option linter.unusedVariables false
set_option linter.unusedSimpArgs false
set_option maxRecDepth 100000
theorem Ch.info32 : (Try.prog.info? 45).map (fun i => (i.zero, i.size, i.bytes)) = some (some (.int .u32 0), 1, 4) := by kernel_rfl
theorem Ch.info64 : (Try.prog.info? 3).map (fun i => (i.zero, i.size, i.bytes)) = some (some (.int .i64 0), 1, 8) := by kernel_rfl
theorem Ch.before {m : Nat} {ss : List Int} {k : Nat} (h : ∀ j, j < k → Ch.OkAt m ss j) (hk : Ch.OkAt m ss k) : ∀ j, j < k + 1 → Ch.OkAt m ss j := fun j hj => by
  rcases Nat.lt_or_ge j k with c | c
  · exact h j c
  · rw [show j = k by omega]; exact hk
theorem retB {a b : Bool} (h : a = b) : Ending.returned (Value.bool a) = .returned (.bool b) := by rw [h]
set_option maxRecDepth 100000 in
theorem Ch.sites_any {w : World} {A : Option Addr} {n c : Nat} {ss : List Int} (h : In w A n c ss) (m : Nat) (hm : m ≤ 1000000) :
    Calls Try.prog 44 #[.slice A n c, .int .i64 m] w fun e w' => e = .returned (.bool (decide (Ch.Rises m ss))) ∧ w = w' := by
  have hl := h.len
  have hle := h.le
  have hmx := h.max
  unfold maxLen at hmx
  have hn1 : (n : Int) ≤ 9223372036854775807 := by omega
  have hA : n = 0 ∨ ∃ b off, A = some ⟨b, off, none⟩ := (Nat.eq_zero_or_pos n).imp_right h.place
  have H := Lib.hid h
  clear h hmx
  go_enter Try.func44, Try.ntmps44
  go_wp2
  go_loopw [5, 7, 10] (fun l _ i wr => ∃ k : Nat, k ≤ n ∧ i = .int .i64 k ∧ l = .int .i64 (Ch.prev ss k) ∧ (∀ j, j < k → Ch.OkAt m ss j) ∧ w = wr) (fun _ _ i _ => n - (intOf i).toNat)
  case atStart => exact ⟨0, Nat.zero_le _, rfl, rfl, fun j hj => by omega, rfl⟩
  case round =>
    obtain ⟨k, hk, rfl, rfl, ho, rfl⟩ := hrel
    by_cases d1 : k < n
    · have d2 : (k : Int) < n := by omega
      rcases hA with h0 | ⟨b, off, rfl⟩
      · omega
      have g1 := H.out.at k d1
      have hN := Lib.hid (show Ch.prev ss (k + 1) = ss.getD k 0 from rfl)
      by_cases c : Ch.OkAt m ss k
      · have R := Lib.hid (Ch.before ho c)
        obtain ⟨c1, c2, c3⟩ := c
        clear ho
        generalize ss.getD k 0 = x at *
        generalize Ch.prev ss k = y at *
        have e1 : ¬ x ≤ y := by omega
        have e2 : ¬ (m : Int) ≤ x := by omega
        have e3 : ¬ 65534 < x := by omega
        clear c1 c2 c3
        go_wp2
        go_roundw
        case rel => exact ⟨k + 1, by omega, by go_num, by rw [hN.out], R.out, by trivial⟩
        case measure => simp [intOf]; omega
      · have R := Lib.hid (show ¬ Ch.Rises m ss from fun r => c (r k (by omega)))
        unfold Ch.OkAt at c
        clear ho
        generalize ss.getD k 0 = x at *
        generalize Ch.prev ss k = y at *
        by_cases e1 : x ≤ y
        · go_wp2
          go_ret
          exact ⟨retB (decide_eq_false R.out).symm, rfl⟩
        · by_cases e2 : (m : Int) ≤ x
          · go_wp2
            go_ret
            exact ⟨retB (decide_eq_false R.out).symm, rfl⟩
          · have e3 : 65534 < x := by omega
            clear c
            go_wp2
            go_ret
            exact ⟨retB (decide_eq_false R.out).symm, rfl⟩
    · have R := Lib.hid (show Ch.Rises m ss from fun j hj => ho j (by omega))
      have hkn : ¬ (k : Int) < n := by omega
      clear ho
      go_wp2
      go_ret
      exact ⟨retB (decide_eq_true R.out).symm, rfl⟩
set_option maxRecDepth 100000 in
theorem Ch.clone_any {w : World} {A : Option Addr} {n c : Nat} {ws : List Int} (h : Wo w A n c ws) (hn : n ≤ 1000000) :
    Calls Try.prog 45 #[.slice A n c] w fun e w' => ∃ A' c', e = .returned (.slice A' n c') ∧ On 45 .u32 w.heap.size A' n c' ws w' ∧ Below w.heap.size w w' := by
  cases A with
  | none =>
    have hc := h.nil rfl
    have hle := h.le
    have hl := h.len
    obtain rfl : n = 0 := by omega
    obtain rfl : c = 0 := by omega
    obtain rfl : ws = [] := List.eq_nil_of_length_eq_zero hl
    have hnil : ∀ W, (binOp .eql 22 (.slice none 0 0) (.slice none 0 0)).run Try.prog W = .ok (.bool true) W := fun W => Lib.run_eql_slice_nil_nil W _ _ Try.underlying22
    go_enter Try.func45, Try.ntmps45
    go_wp2
    go_ret
    exact ⟨none, 0, rfl, On.none _ _ _ _, Below.refl _ _⟩
  | some ad =>
    have hl := h.len
    have hB := ((Kept.refl w).alloc #[] 45).below
    have hW := Lib.hid (h.below hB)
    have hO := Lib.hid (Ow.new 45 .u32 w w.heap.size (Nat.le_refl _))
    have hs := hB.size
    replace hB := Lib.hid hB
    clear h
    have hnil : ∀ W, (binOp .eql 22 (.slice (some ad) n c) (.slice none 0 0)).run Try.prog W = .ok (.bool false) W := fun W => Lib.run_eql_slice_nil W _ _ (some ad) n c _ _ Try.underlying22
    go_enter Try.func45, Try.ntmps45
    go_wp2_with (with_reducible refine append_row (o := ⟨some 7, _, _, _, _, _⟩) Try.underlying22 Ch.info32 (by omega) rfl (.tmp 5) (.tmp 6) rfl w.heap.size w.heap.size 0 0 [] rfl hO.out _ n c ws rfl hW.out (by omega) hs ?_; intro g3 cap3 w3 hO3 hG3)
    rw [List.nil_append, Nat.zero_add] at hO3
    have hB3 := Lib.hid (hB.out.grown hG3 hs (fun q e => by cases e; exact Nat.le_refl _))
    replace hO3 := Lib.hid hO3
    clear hG3 hO hB hW hs
    go_wp2
    go_ret
    exact ⟨_, cap3, rfl, hO3.out, hB3.out⟩
/-- the first i and the last i have changed their places -/
def Ch.Half (n i : Nat) (xs ys : List Int) : Prop := ys.length = n ∧ ∀ q, q < n → ys.getD q 0 = if q < i ∨ n - i ≤ q then xs.getD (n - 1 - q) 0 else xs.getD q 0
theorem Ch.half_step {n i : Nat} {xs ys : List Int} (h : Ch.Half n i xs ys) (hi : i + 1 + i < n) : Ch.Half n (i + 1) xs ((ys.set i (ys.getD (n - 1 - i) 0)).set (n - 1 - i) (ys.getD i 0)) := by
  obtain ⟨h1, h2⟩ := h
  refine ⟨by simp [h1], fun q hq => ?_⟩
  rw [Ch.getD_set, Ch.getD_set, List.length_set, h1, h2 i (by omega), h2 (n - 1 - i) (by omega), h2 q hq]
  by_cases c1 : q = i
  · subst c1
    rw [if_neg (by omega), if_pos (by omega), if_neg (by omega), if_pos (by omega)]
  · by_cases c2 : q = n - 1 - i
    · subst c2
      rw [if_pos (by omega), if_neg (by omega), if_pos (by omega), show n - 1 - (n - 1 - i) = i by omega]
    · rw [if_neg (by omega), if_neg (by omega)]
      by_cases c3 : q < i ∨ n - i ≤ q
      · rw [if_pos c3, if_pos (by omega)]
      · rw [if_neg c3, if_neg (by omega)]
theorem Ch.half_done {n i : Nat} {xs ys : List Int} (h : Ch.Half n i xs ys) (hx : xs.length = n) (hi : n ≤ i + 1 + i) : ys = xs.reverse := by
  obtain ⟨h1, h2⟩ := h
  refine Ch.ext (by simp [h1, hx]) (fun q hq => ?_)
  rw [List.length_reverse] at hq
  rw [h2 q (by omega)]
  have e : xs.reverse.getD q 0 = xs.getD (n - 1 - q) 0 := by
    rw [List.getD_eq_getElem?_getD, List.getElem?_reverse hq, List.getD_eq_getElem?_getD, hx]
  rw [e]
  split
  · rfl
  · rw [show n - 1 - q = q by omega]
set_option maxRecDepth 100000 in
set_option maxHeartbeats 1000000 in
theorem Ch.reverse_any {w : World} {base g n c : Nat} {xs : List Int} (h : Ow 3 .i64 base g n c xs w) (hn : n ≤ 1000000) :
    Calls Try.prog 52 #[.slice (some ⟨g, 0, none⟩) n c] w fun e w' => e = .returned (.tuple #[]) ∧ Ow 3 .i64 base g n c xs.reverse w' ∧ But g w w' := by
  have hl := h.has.2.2.2.1
  have hle := h.has.2.1
  have hb0 := h.has.1
  have H := Lib.hid h
  clear h
  go_enter Try.func52, Try.ntmps52
  go_wp2
  go_loopw [2, 3] (fun a b wr => ∃ (i : Nat) (ys : List Int), i ≤ n ∧ a = .int .i64 i ∧ b = .int .i64 ((n : Int) - 1 - i) ∧ Ch.Half n i xs ys ∧ Ow 3 .i64 base g n c ys wr ∧ But g w wr) (fun a _ _ => n - (intOf a).toNat)
  case atStart => exact ⟨0, xs, Nat.zero_le _, rfl, by simp, ⟨hl, fun q hq => by rw [if_neg (by omega)]⟩, H.out, But.refl _ _⟩
  case round =>
    obtain ⟨i, ys, hi, rfl, rfl, hH, hO, hB⟩ := hrel
    by_cases d1 : i + 1 + i < n
    · have d2 : (i : Int) < (n : Int) - 1 - i := by omega
      obtain ⟨j, hj⟩ : ∃ j : Nat, (n : Int) - 1 - i = j := ⟨n - 1 - i, by omega⟩
      have hj2 : n - 1 - i = j := by omega
      have hS := Ch.half_step hH d1
      rw [hj2] at hS
      have f1 := hO.free i
      have f2 := hO.free j
      have g1 := hO.at i (by omega)
      have g2 := hO.at j (by omega)
      rw [hj] at d2 ⊢
      have hO2 := Lib.hid ((hO.drew.set i (ys.getD j 0)).set j (ys.getD i 0))
      have hB2 := Lib.hid ((hB.drew.setCell i (.int .i64 (ys.getD j 0))).setCell j (.int .i64 (ys.getD i 0)))
      replace hS := Lib.hid hS
      generalize hy1 : ys.getD i 0 = y1 at *
      generalize hy2 : ys.getD j 0 = y2 at *
      have hjn : (j : Int) < n := by omega
      have hin : (i : Int) < n := by omega
      clear hH hO hB hy1 hy2
      go_wp2_with (fail)
      go_region
      go_wp2
      go_roundw
      case rel => exact ⟨i + 1, _, by omega, by go_num, by rw [← hj]; congr 1; omega, hS.out, hO2.out, hB2.out⟩
      case measure => simp [intOf]; omega
    · have d2 : ¬ (i : Int) < (n : Int) - 1 - i := by omega
      have R := Lib.hid (Ch.half_done hH hl (by omega))
      rw [R.out] at hO
      replace hO := Lib.hid hO
      replace hB := Lib.hid hB
      clear hH
      go_wp2
      go_end0
      exact ⟨rfl, hO.out, hB.out⟩
theorem Ch.reverse_nil (w : World) : Calls Try.prog 52 #[.slice none 0 0] w fun e w' => e = .returned (.tuple #[]) ∧ w = w' := by
  go_enter Try.func52, Try.ntmps52
  go_wp2
  go_loopw [2, 3] (fun a b wr => a = .int .i64 0 ∧ b = .int .i64 (-1) ∧ w = wr) (fun _ _ _ => 0)
  case atStart => exact ⟨rfl, rfl, rfl⟩
  case round =>
    obtain ⟨rfl, rfl, rfl⟩ := hrel
    go_wp2
    go_end0
    exact ⟨rfl, rfl⟩
end Go.Proofs.Ytmdknjfhdmigdaa
