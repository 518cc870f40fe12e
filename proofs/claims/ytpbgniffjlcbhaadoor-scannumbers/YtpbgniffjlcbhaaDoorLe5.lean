/-
  The contracts of the document's Fit, and of TakeName, the program's and the document's.
-/
import Derived.Test.YtpbgniffjlcbhaaDoorLe4
namespace Go.Proofs.YtpbgniffjlcbhaaDoor
open Go.RowKit
set_option linter.unusedVariables false
set_option linter.unusedSimpArgs false
set_option maxRecDepth 100000
/-- what Fit has put together behind k bytes -/
structure L.Fits (t : ByteArray) (k : Nat) : Prop where
  len : t.size = 1 + k
  low : ∃ x xs, L.bs t = x :: xs ∧ 97 ≤ x ∧ x ≤ 122
  part : (L.bs t).all L.part = true
theorem L.Fits.name {t : ByteArray} {k : Nat} (h : L.Fits t k) (hk : k ≤ 6) : L.name (L.bs t) = true := by
  obtain ⟨x, xs, e, h1, h2⟩ := h.low
  have hl := L.bs_len t
  have hg : (L.bs t).getD 0 0 = x := by rw [e]; rfl
  have hs := h.len
  rw [L.name_yes (by omega) (by omega) ?_ ?_]
  · exact h.part
  · rw [hg]; unfold L.letter; simp [h1, h2]
  · exact L.reg_no (Or.inr (Or.inr (by rw [hg]; omega)))
theorem L.bs_append (s t : ByteArray) : L.bs (s ++ t) = L.bs s ++ L.bs t := by
  unfold L.bs
  rw [← List.map_append]
  simp
def L.alls : ByteArray := ⟨#[97, 98, 99, 88, 89, 90, 95, 48, 49, 57, 82, 109]⟩
theorem L.alls_at : ∀ k, k < 12 → (L.bs (L.alls.extract k (k + 1))).all L.part = true ∧ (L.alls.extract k (k + 1)).size = 1
  | 0, _ => by decide
  | 1, _ => by decide
  | 2, _ => by decide
  | 3, _ => by decide
  | 4, _ => by decide
  | 5, _ => by decide
  | 6, _ => by decide
  | 7, _ => by decide
  | 8, _ => by decide
  | 9, _ => by decide
  | 10, _ => by decide
  | 11, _ => by decide
theorem L.Fits.more {t u : ByteArray} {k : Nat} (h : L.Fits t k) (h1 : (L.bs u).all L.part = true) (h2 : u.size = 1) : L.Fits (t ++ u) (k + 1) := by
  obtain ⟨x, xs, e, h3, h4⟩ := h.low
  refine ⟨by rw [ByteArray.size_append, h.len, h2]; omega, ⟨x, xs ++ L.bs u, by rw [L.bs_append, e]; rfl, h3, h4⟩, ?_⟩
  rw [L.bs_append, List.all_append, h.part, h1]; rfl
theorem L.Fits.one (x : Int) (h1 : 97 ≤ x) (h2 : x ≤ 122) : L.Fits (strOfNums [x]) 0 := by
  have e := L.bs_str [x] (by simp; omega)
  refine ⟨by rw [strOfNums_size]; rfl, ⟨x, [], e, h1, h2⟩, ?_⟩
  rw [e]
  simp [L.part, L.letter, h1, h2]
set_option maxRecDepth 100000 in
theorem L.fit_any (s : ByteArray) (hs : s.size ≤ maxLen) (w : World) :
    Calls Tryd.prog 33 #[.string s] w fun e w' => ∃ t, e = .returned (.string t) ∧ L.name (L.bs t) = true ∧ Below w.heap.size w w' := by
  unfold maxLen at hs
  have hs1 : (s.size : Int) ≤ 9223372036854775807 := by omega
  have hat := Lib.hid (fun (k : Nat) (y : Int) (hy : (L.bs s)[k]? = some y) => L.at_of hy)
  have hrg := Lib.hid (L.bs_rng s)
  have hl := L.bs_len s
  have hm : 0 ≤ (s.size : Int) % 26 ∧ (s.size : Int) % 26 < 26 := by omega
  generalize L.bs s = xs at *
  go_enter Tryd.func33, Tryd.ntmps33
  have hY := Lib.hid (Rw.one (L := 256) (Has.new #[.int .u8 (97 + (s.size : Int) % 26)] 5 w) (by omega) (by omega))
  have hB := Lib.hid (((Kept.refl w).alloc #[.int .u8 (97 + (s.size : Int) % 26)] 5).below)
  have hF := Lib.hid (L.Fits.one (97 + (s.size : Int) % 26) (by omega) (by omega))
  go_upto_region 3 with (with_reducible refine want_do (o := ⟨some 12, _, _, _, _, _⟩) rfl (exec_text Tryd.underlying37 Tryd.underlying5 Tryd.underlying9 (.tmp 11) rfl rfl hY.out) ?_)
  clear hY
  generalize w.alloc (.cells #[.int .u8 (97 + (s.size : Int) % 26)] 5) = w1 at *
  generalize strOfNums [97 + (s.size : Int) % 26] = t0 at *
  clear hm
  go_wp2
  go_loopw [4, 5] (fun o i wr => ∃ (k : Nat) (t : ByteArray), k ≤ 6 ∧ k ≤ s.size ∧ i = .int .i64 k ∧ o = .string t ∧ L.Fits t k ∧ Below w.heap.size w wr) (fun _ i _ => 6 - (intOf i).toNat)
  case atStart => exact ⟨0, t0, by omega, by omega, rfl, rfl, hF.out, hB.out⟩
  case round =>
    clear hF hB
    obtain ⟨k, t, hk6, hks, rfl, rfl, hF, hB⟩ := hrel
    by_cases d1 : k < s.size
    · have d2 : (k : Int) < (s.size : Int) := by omega
      by_cases d3 : k < 6
      · have d4 : (k : Int) < 6 := by omega
        obtain ⟨y, hy⟩ : ∃ y, xs[k]? = some y := ⟨_, List.getElem?_eq_getElem (by omega)⟩
        obtain ⟨hy1, hy2⟩ := hat.out k y hy
        have hy3 := hrg.out y (List.mem_of_getElem? hy)
        obtain ⟨q, hq⟩ := Int.eq_ofNat_of_zero_le (show 0 ≤ y % 12 by omega)
        have hq2 : q < 12 := by omega
        have hq3 : (q : Int) < 12 := by omega
        obtain ⟨a1, a2⟩ := L.alls_at q hq2
        have R := Lib.hid (hF.more a1 a2)
        have ht := hF.len
        have hsum : (t.size : Int) ≤ 7 := by omega
        clear hF a1 hy
        replace hB := Lib.hid hB
        go_wp2
        go_quiet (fail)
        go_wp2
        go_roundw
        case rel => exact ⟨k + 1, _, by omega, by omega, by go_num, rfl, R.out, Bel.drewN hB.out nq⟩
        case measure => simp [intOf]; omega
      · have d4 : ¬ (k : Int) < 6 := by omega
        have R := Lib.hid (hF.name hk6)
        replace hB := Lib.hid hB
        clear hF
        go_wp2
        go_ret
        exact ⟨t, rfl, R.out, hB.out⟩
    · have d2 : ¬ (k : Int) < (s.size : Int) := by omega
      have R := Lib.hid (hF.name hk6)
      replace hB := Lib.hid hB
      clear hF
      go_wp2
      go_ret
      exact ⟨t, rfl, R.out, hB.out⟩
theorem L.tnE_short {bs : List Int} (h : bs.length = 0 ∨ bs.length < L.whole (L.first bs)) : L.tnE bs = 3 := by
  unfold L.tnE
  rcases h with h | h
  · rw [if_pos h]
  · by_cases c : bs.length = 0
    · rw [if_pos c]
    · rw [if_neg c, if_pos h]
theorem L.tnE_name {bs : List Int} (h : ¬ bs.length = 0) (h1 : ¬ bs.length < L.whole (L.first bs)) (h2 : L.name (L.tnX bs) = false) : L.tnE bs = 9 := by
  unfold L.tnE
  rw [if_neg h, if_neg h1, if_neg (by rw [h2]; decide)]
theorem L.tnE_form {bs : List Int} (h : ¬ bs.length = 0) (h1 : ¬ bs.length < L.whole (L.first bs)) (h2 : L.name (L.tnX bs) = true) (h3 : ((bs.take (L.whole (L.first bs))).drop (1 + L.first bs)).all (fun x => decide (x = 0)) = false) : L.tnE bs = 6 := by
  unfold L.tnE
  rw [if_neg h, if_neg h1, if_pos h2, if_neg (by rw [h3]; decide)]
theorem L.tnE_ok {bs : List Int} (h : ¬ bs.length = 0) (h1 : ¬ bs.length < L.whole (L.first bs)) (h2 : L.name (L.tnX bs) = true) (h3 : ((bs.take (L.whole (L.first bs))).drop (1 + L.first bs)).all (fun x => decide (x = 0)) = true) : L.tnE bs = 0 := by
  unfold L.tnE
  rw [if_neg h, if_neg h1, if_pos h2, if_pos h3]
theorem L.tn_not {bs : List Int} (h : ¬ L.tnE bs = 0) : L.tnS bs = [] ∧ L.tnN bs = 0 := by
  unfold L.tnS L.tnN
  rw [if_neg h, if_neg h]; exact ⟨rfl, rfl⟩
theorem L.tn_ok {bs : List Int} (h : L.tnE bs = 0) : L.tnS bs = L.tnX bs ∧ L.tnN bs = (L.whole (L.first bs) : Int) := by
  unfold L.tnS L.tnN
  rw [if_pos h, if_pos h]; exact ⟨rfl, rfl⟩
theorem L.tnX_byt {bs : List Int} (h : L.Byt bs) : L.Byt (L.tnX bs) := fun x hx => h x (List.mem_of_mem_take (List.mem_of_mem_drop hx))
/-- what TakeName hands back -/
def L.tnV (bs : List Int) : Value := .tuple #[.string (strOfNums (L.tnS bs)), .int .i64 (L.tnN bs), .int .i64 (L.tnE bs)]
theorem L.tnV_not {bs : List Int} {e : Int} (h : L.tnE bs = e) (he : e ≠ 0) : L.tnV bs = .tuple #[.string ⟨#[]⟩, .int .i64 0, .int .i64 e] := by
  unfold L.tnV
  rw [(L.tn_not (by rw [h]; exact he)).1, (L.tn_not (by rw [h]; exact he)).2, h]; rfl
theorem L.tnV_ok {bs : List Int} (h : L.tnE bs = 0) : L.tnV bs = .tuple #[.string (strOfNums (L.tnX bs)), .int .i64 (L.whole (L.first bs) : Int), .int .i64 0] := by
  unfold L.tnV
  rw [(L.tn_ok h).1, (L.tn_ok h).2, h]
end Go.Proofs.YtpbgniffjlcbhaaDoor
