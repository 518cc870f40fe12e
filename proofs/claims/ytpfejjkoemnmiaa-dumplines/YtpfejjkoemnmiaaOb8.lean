/-
  The document's Fit of a name, as a function of the string; the document's Fit of an object.
-/
import Derived.Test.YtpfejjkoemnmiaaOb7
import Derived.Test.YtpfejjkoemnmiaaM05
namespace Go.Proofs.Ytpfejjkoemnmiaa
open Go.RowKit
set_option linter.unusedVariables false
set_option linter.unusedSimpArgs false
set_option maxRecDepth 100000
/-- Fit's name, of the first k bytes of a string -/
def L.fitK (s : ByteArray) : Nat → ByteArray
  | 0 => strOfNums [97 + (s.size : Int) % 26]
  | k + 1 => L.fitK s k ++ L.alls.extract ((L.bs s).getD k 0 % 12).toNat (((L.bs s).getD k 0 % 12).toNat + 1)
def L.fitS (s : ByteArray) : ByteArray := L.fitK s (min s.size 6)
theorem L.fitK_fits (s : ByteArray) : ∀ k, L.Fits (L.fitK s k) k
  | 0 => L.Fits.one (97 + (s.size : Int) % 26) (by omega) (by omega)
  | k + 1 => by
    have h : ((L.bs s).getD k 0 % 12).toNat < 12 := by omega
    obtain ⟨a1, a2⟩ := L.alls_at _ h
    exact (L.fitK_fits s k).more a1 a2
/-- the bytes behind the first one are below 122 -/
theorem L.alls_low : ∀ k, k < 12 → ∀ x ∈ L.bs (L.alls.extract k (k + 1)), x < 122
  | 0, _ => by decide
  | 1, _ => by decide
  | 2, _ => by decide
  | 3, _ => by decide
  | 4, _ => by decide
  | 5, _ => by decide
  | 6, _ => by decide
  | 7, _ => by decide
  | 8, _ => by decide
  | 9, _ => by decide
  | 10, _ => by decide
  | 11, _ => by decide
theorem L.fitK_low (s : ByteArray) : ∀ k, ∃ x xs, L.bs (L.fitK s k) = x :: xs ∧ x ≤ 122 ∧ ∀ y ∈ xs, y < 122
  | 0 => ⟨97 + (s.size : Int) % 26, [], L.bs_str _ (by simp; omega), by omega, by simp⟩
  | k + 1 => by
    obtain ⟨x, xs, e, h1, h2⟩ := L.fitK_low s k
    have h : ((L.bs s).getD k 0 % 12).toNat < 12 := by omega
    refine ⟨x, xs ++ L.bs (L.alls.extract ((L.bs s).getD k 0 % 12).toNat (((L.bs s).getD k 0 % 12).toNat + 1)), by rw [show L.fitK s (k + 1) = L.fitK s k ++ _ from rfl, L.bs_append, e]; rfl, h1, fun y hy => ?_⟩
    rcases List.mem_append.1 hy with q | q
    · exact h2 y q
    · exact L.alls_low _ h y q
theorem L.fitS_good (s : ByteArray) : Ob.Good (L.fitS s) := (L.fitK_fits s _).name (by omega)
theorem L.fitS_size (s : ByteArray) : (L.fitS s).size ≤ 7 := by
  have := (L.fitK_fits s (min s.size 6)).len
  unfold L.fitS
  omega
set_option maxRecDepth 100000 in
theorem L.fitS_any (s : ByteArray) (hs : s.size ≤ maxLen) (w : World) :
    Calls Try.prog 35 #[.string s] w fun e w' => e = .returned (.string (L.fitS s)) ∧ Below w.heap.size w w' := by
  unfold maxLen at hs
  have hs1 : (s.size : Int) ≤ 9223372036854775807 := by omega
  have hat := Lib.hid (fun (k : Nat) (y : Int) (hy : (L.bs s)[k]? = some y) => L.at_of hy)
  have hrg := Lib.hid (L.bs_rng s)
  have hl := L.bs_len s
  have hm : 0 ≤ (s.size : Int) % 26 ∧ (s.size : Int) % 26 < 26 := by omega
  have hstep := Lib.hid (fun (k : Nat) (y : Int) (hy : (L.bs s)[k]? = some y) => show L.fitK s (k + 1) = L.fitK s k ++ L.alls.extract (y % 12).toNat ((y % 12).toNat + 1) by
    show L.fitK s k ++ L.alls.extract ((L.bs s).getD k 0 % 12).toNat (((L.bs s).getD k 0 % 12).toNat + 1) = _
    rw [show (L.bs s).getD k 0 = y by rw [List.getD_eq_getElem?_getD, hy]; rfl])
  have hlen := Lib.hid (fun k => (L.fitK_fits s k).len)
  obtain ⟨q0, hq0⟩ : ∃ q, q = L.fitS s := ⟨_, rfl⟩
  rw [← hq0]
  replace hq0 := Lib.hid hq0
  have hz := Lib.hid (show L.fitK s 0 = strOfNums [97 + (s.size : Int) % 26] from rfl)
  generalize L.bs s = xs at *
  go_enter Try.func35, Try.ntmps35
  have hY := Lib.hid (Rw.one (L := 256) (Has.new #[.int .u8 (97 + (s.size : Int) % 26)] 5 w) (by omega) (by omega))
  have hB := Lib.hid (((Kept.refl w).alloc #[.int .u8 (97 + (s.size : Int) % 26)] 5).below)
  go_upto_region 3 with (with_reducible refine want_do (o := ⟨some 12, _, _, _, _, _⟩) rfl (exec_text Try.underlying42 Try.underlying5 Try.underlying9 (.tmp 11) rfl rfl hY.out) ?_)
  clear hY
  generalize w.alloc (.cells #[.int .u8 (97 + (s.size : Int) % 26)] 5) = w1 at *
  rw [← hz.out]
  clear hm hz
  go_wp2
  go_loopw [4, 5] (fun o i wr => ∃ k : Nat, k ≤ 6 ∧ k ≤ s.size ∧ i = .int .i64 k ∧ o = .string (L.fitK s k) ∧ Below w.heap.size w wr) (fun _ i _ => 6 - (intOf i).toNat)
  case atStart => exact ⟨0, by omega, by omega, rfl, rfl, hB.out⟩
  case round =>
    clear hB
    obtain ⟨k, hk6, hks, rfl, rfl, hB⟩ := hrel
    have ht := hlen.out k
    by_cases d1 : k < s.size
    · have d2 : (k : Int) < (s.size : Int) := by omega
      by_cases d3 : k < 6
      · have d4 : (k : Int) < 6 := by omega
        obtain ⟨y, hy⟩ : ∃ y, xs[k]? = some y := ⟨_, List.getElem?_eq_getElem (by omega)⟩
        obtain ⟨hy1, hy2⟩ := hat.out k y hy
        have hy3 := hrg.out y (List.mem_of_getElem? hy)
        have R := hstep.out k y hy
        obtain ⟨q, hq⟩ := Int.eq_ofNat_of_zero_le (show 0 ≤ y % 12 by omega)
        rw [hq, Int.toNat_natCast] at R
        replace R := Lib.hid R
        have hq2 : q < 12 := by omega
        have hq3 : (q : Int) < 12 := by omega
        generalize L.fitK s k = t at *
        have hsum : (t.size : Int) ≤ 7 := by omega
        clear hy
        replace hB := Lib.hid hB
        go_wp2
        go_quiet (fail)
        go_wp2
        go_roundw
        case rel => exact ⟨k + 1, by omega, by omega, by go_num, by rw [R.out]; rfl, Bel.drewN hB.out nq⟩
        case measure => simp [intOf]; omega
      · have d4 : ¬ (k : Int) < 6 := by omega
        have R := Lib.hid (show L.fitK s k = q0 by rw [hq0.out]; unfold L.fitS; rw [show min s.size 6 = k by omega])
        replace hB := Lib.hid hB
        rw [R.out]
        clear ht
        go_wp2
        go_ret
        exact ⟨rfl, hB.out⟩
    · have d2 : ¬ (k : Int) < (s.size : Int) := by omega
      have R := Lib.hid (show L.fitK s k = q0 by rw [hq0.out]; unfold L.fitS; rw [show min s.size 6 = k by omega])
      replace hB := Lib.hid hB
      rw [R.out]
      clear ht
      go_wp2
      go_ret
      exact ⟨rfl, hB.out⟩
end Go.Proofs.Ytpfejjkoemnmiaa
