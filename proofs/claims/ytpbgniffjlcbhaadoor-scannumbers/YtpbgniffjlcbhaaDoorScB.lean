/-
  What all laws of stage 14 begin with: the document's example; the beginning of a row.
-/
import Derived.Test.YtpbgniffjlcbhaaDoorScA
import Derived.Test.YtpbgniffjlcbhaaDoorSc6
namespace Go.Proofs.YtpbgniffjlcbhaaDoor
open Go.RowKit
set_option linter.unusedVariables false
set_option linter.unusedSimpArgs false
set_option maxRecDepth 100000
theorem Bu.example1 : Sc.line (L.bs ⟨#[97, 58, 32, 46, 119, 111, 114, 100, 32, 48, 120, 49, 70, 32, 59, 32, 98]⟩) = .ok [⟨1, 0, [97], 0⟩, ⟨3, 1, [58], 0⟩, ⟨4, 3, [119, 111, 114, 100], 0⟩, ⟨2, 9, [48, 120, 49, 70], 31⟩] := by kernel_rfl
set_option maxHeartbeats 4000000 in
set_option maxRecDepth 100000 in
theorem Bu.shown_any (w : World) (hE : Sc.Errs w) : Calls Tryd.prog 8 #[] w fun e w' => e = .returned (.bool true) ∧ Below w.heap.size w w' := by
  have CL := Lib.hid (Sc.line_any ⟨#[97, 58, 32, 46, 119, 111, 114, 100, 32, 48, 120, 49, 70, 32, 59, 32, 98]⟩ (by decide) w hE)
  go_enter Tryd.func8, Tryd.ntmps8
  go_wp2_with (fail)
  refine CL.out.mono ?_; rintro e w2 ⟨v, rfl, hR, hB⟩
  rw [Bu.example1] at hR
  obtain ⟨A, n, c, rfl, hO⟩ := hR
  obtain rfl : n = 4 := hO.len.symm
  have hT := hO.tr
  obtain ⟨b, off, rfl⟩ := hT.place (by decide)
  obtain ⟨a0, a1, a2, a3⟩ := hT.four 0 (by decide)
  obtain ⟨b0, b1, b2, b3⟩ := hT.four 1 (by decide)
  obtain ⟨c0, c1, c2, c3⟩ := hT.four 2 (by decide)
  obtain ⟨d0, d1, d2, d3⟩ := hT.four 3 (by decide)
  replace a2 : w2.cell? ⟨b, off + 0 * 4 + 2, Option.none⟩ = some (.string ⟨#[97]⟩) := a2
  replace b2 : w2.cell? ⟨b, off + 1 * 4 + 2, Option.none⟩ = some (.string ⟨#[58]⟩) := b2
  replace c0 : w2.cell? ⟨b, off + 2 * 4, Option.none⟩ = some (.int .i64 4) := c0
  replace c2 : w2.cell? ⟨b, off + 2 * 4 + 2, Option.none⟩ = some (.string ⟨#[119, 111, 114, 100]⟩) := c2
  replace d3 : w2.cell? ⟨b, off + 3 * 4 + 3, Option.none⟩ = some (.int .u32 31) := d3
  simp only [Nat.zero_mul, Nat.add_zero, Nat.one_mul, Nat.reduceMul, Nat.add_assoc, Nat.reduceAdd] at a2 b2 c0 c2 d3
  replace hB := Lib.hid hB
  clear CL hO hT a0 a1 a3 b0 b1 b3 c1 c3 d0 d1 d2
  go_wp2
  go_ret
  exact ⟨rfl, hB.out⟩
/-- the beginning of a row, of texts cut -/
def Bu.short (ys : List Sc.Tk) (k : Nat) : List Sc.Tk := (ys.take k).map fun y => { y with t := y.t.take 20 }
theorem Bu.short_succ {ys : List Sc.Tk} {k : Nat} (hk : k < ys.length) : Bu.short ys (k + 1) = Bu.short ys k ++ [{ Sc.tk ys k with t := (Sc.tk ys k).t.take 20 }] := by
  unfold Bu.short
  rw [List.take_add_one, Sc.tk_get hk, List.map_append]
  rfl
theorem Bu.cut_str (t : List Int) (h : L.Byt t) : (strOfNums t).extract 0 20 = strOfNums (t.take 20) := by
  have h2 := Sc.bs_extract (strOfNums t) 0 20
  rw [L.bs_str _ h] at h2
  have := congrArg strOfNums h2
  rwa [L.str_bs] at this
set_option maxHeartbeats 4000000 in
set_option maxRecDepth 100000 in
theorem Bu.short_any {w : World} {A : Option Addr} {n c : Nat} {ys : List Sc.Tk} (h : Tr w A n c ys) (hb : ∀ y ∈ ys, L.Byt y.t) (hsz : ∀ y ∈ ys, y.t.length ≤ 9223372036854775807) :
    Calls Tryd.prog 14 #[.slice A n c] w fun e w' => ∃ A' c', e = .returned (.slice A' (min n 30) c') ∧ Sc.Own w (Bu.short ys (min n 30)) A' (min n 30) c' w' := by
  have hl := h.len
  have hle := h.le
  have hmx := h.max
  unfold maxLen at hmx
  have H := Lib.hid h
  obtain ⟨n1, hn1⟩ : ∃ n1, n1 = min n 30 := ⟨_, rfl⟩
  rw [← hn1]
  clear h
  go_enter Tryd.func14, Tryd.ntmps14
  go_wp2
  go_loopw [3, 4] (fun o i wr => ∃ (k c' : Nat) (A' : Option Addr), k ≤ n1 ∧ i = .int .i64 (k : Int) ∧ o = .slice A' k c' ∧ Sc.Own w (Bu.short ys k) A' k c' wr) (fun _ i _ => n1 - (intOf i).toNat)
  case atStart => exact ⟨0, 0, _, Nat.zero_le _, rfl, rfl, ⟨((Kept.refl w).alloc #[] _).below, Oz.new _ _ _ (Nat.le_refl _)⟩⟩
  case round =>
    obtain ⟨k, c', A', hk, rfl, rfl, hO⟩ := hrel
    have hk0 : (0 : Int) ≤ (k : Int) := by omega
    by_cases hkn : k < n1
    · have c1 : (k : Int) < (n : Int) := by omega
      have c2 : (k : Int) < 30 := by omega
      have hT := H.out.below hO.below
      obtain ⟨b, off, rfl⟩ := hT.place (by omega)
      have hR := hT.range k (by omega)
      have hjs := Lib.hid (Bu.short_succ (ys := ys) (k := k) (by omega))
      have hy := hb _ (Sc.tk_mem (ys := ys) (k := k) (by omega))
      have hz := hsz _ (Sc.tk_mem (ys := ys) (k := k) (by omega))
      generalize Sc.tk ys k = y at *
      replace hR := Lib.hid (show wr.rangeAt b (off + k * 4) [.int .i64 y.k, .int .i64 y.p, .string (strOfNums y.t), .int .u32 y.n] from hR)
      have hS := strOfNums_size y.t
      have hcut := Bu.cut_str y.t hy
      obtain ⟨tt, htt⟩ : ∃ tt, tt = y.t.take 20 := ⟨_, rfl⟩
      rw [← htt] at hjs hcut
      replace hjs := Lib.hid (show Bu.short ys (k + 1) = Bu.short ys k ++ [⟨y.k, y.p, tt, y.n⟩] from hjs.out)
      have hX : (strOfNums y.t).extract 0 (min (y.t.length : Int) 20).toNat = strOfNums tt := by
        by_cases d : y.t.length ≤ 20
        · rw [show (min (y.t.length : Int) 20).toNat = (strOfNums y.t).size by omega, htt, List.take_of_length_le d]; simp
        · rw [show (min (y.t.length : Int) 20).toNat = 20 by omega, hcut]
      generalize strOfNums y.t = S at *
      have hK := Lib.hid (hO.two ⟨y.k, y.p, tt, y.n⟩ (S.extract 0 (min (y.t.length : Int) 20).toNat) hX _ rfl)
      clear hT hcut htt hy hO
      by_cases d20 : y.t.length ≤ 20
      · have d1 : (y.t.length : Int) ≤ 20 := by omega
        clear hX
        go_wp2_with (first
          | (with_reducible refine wpList_load_mid (op := ⟨some 20, _, _, _, _, _⟩) rfl 34 (.tmp 19) rfl b (off + k * 4) rfl [.int .i64 y.k, .int .i64 y.p, .string S, .int .u32 y.n] _ hR.out Tryd.underlying34 rfl (by kernel_rfl) ?_)
          | (with_reducible refine append_tr (o := ⟨some 32, _, _, _, _, _⟩) Tryd.underlying22 Sc.info34b rfl (by omega) rfl (.tmp 29) (.tmp 31) rfl w.heap.size A' k c' (Bu.short ys k) rfl hK.out.1.row _ 1 1 [⟨y.k, y.p, tt, y.n⟩] rfl hK.out.2 (by omega) hK.out.1.below.size (Or.inr (by omega)) ?_
             intro g' cap' w5 hO5 hG5
             have hA5 := Lib.hid (hK.out.1.grown hG5 hO5)
             clear hG5 hO5)
          | fail)
        rw [← hjs.out] at hA5
        go_roundw
        case rel => exact ⟨k + 1, cap', some ⟨g', 0, Option.none⟩, by omega, by go_num, by trivial, hA5.out⟩
        case measure => simp [intOf]; omega
      · have d1 : ¬ (y.t.length : Int) < 20 := by omega
        clear hX
        go_wp2_with (first
          | (with_reducible refine wpList_load_mid (op := ⟨some 20, _, _, _, _, _⟩) rfl 34 (.tmp 19) rfl b (off + k * 4) rfl [.int .i64 y.k, .int .i64 y.p, .string S, .int .u32 y.n] _ hR.out Tryd.underlying34 rfl (by kernel_rfl) ?_)
          | (with_reducible refine append_tr (o := ⟨some 32, _, _, _, _, _⟩) Tryd.underlying22 Sc.info34b rfl (by omega) rfl (.tmp 29) (.tmp 31) rfl w.heap.size A' k c' (Bu.short ys k) rfl hK.out.1.row _ 1 1 [⟨y.k, y.p, tt, y.n⟩] rfl hK.out.2 (by omega) hK.out.1.below.size (Or.inr (by omega)) ?_
             intro g' cap' w5 hO5 hG5
             have hA5 := Lib.hid (hK.out.1.grown hG5 hO5)
             clear hG5 hO5)
          | fail)
        rw [← hjs.out] at hA5
        go_roundw
        case rel => exact ⟨k + 1, cap', some ⟨g', 0, Option.none⟩, by omega, by go_num, by trivial, hA5.out⟩
        case measure => simp [intOf]; omega
    · obtain rfl : k = n1 := by omega
      replace hO := Lib.hid hO
      by_cases e : n ≤ 30
      · have c1 : (n : Int) ≤ (k : Int) := by omega
        clear hn1
        go_wp2
        go_ret
        exact ⟨A', c', rfl, hO.out⟩
      · have c1 : (k : Int) < (n : Int) := by omega
        have c2 : (30 : Int) ≤ (k : Int) := by omega
        clear hn1
        go_wp2
        go_ret
        exact ⟨A', c', rfl, hO.out⟩
end Go.Proofs.YtpbgniffjlcbhaaDoor
