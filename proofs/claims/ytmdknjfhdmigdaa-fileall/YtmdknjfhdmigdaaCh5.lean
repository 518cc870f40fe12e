/-
  The contract of the document's Pack.
-/
import Derived.Test.YtmdknjfhdmigdaaCh3
namespace Go.Proofs.Ytmdknjfhdmigdaa
open Go.RowKit
set_option linter.unusedVariables false
set_option linter.unusedSimpArgs false
set_option maxRecDepth 100000
theorem Ch.rsite_nat {n : Nat} {ss : List Int} (h : Ch.Rises n ss) (k : Nat) (hk : k < ss.length) : ∃ s : Nat, ss.getD k 0 = (s : Int) ∧ s < n ∧ s ≤ 65534 := by
  have h1 := Ch.at_ge h k hk
  exact ⟨(ss.getD k 0).toNat, by omega, by omega, by omega⟩
theorem Ch.rpack_no {w : World} {A : Option Addr} {n c : Nat} {B : Option Addr} {m d : Nat} {ss : List Int} (hs : In w B m d ss) (hn : n ≤ 1000000) (hR : ¬ Ch.Rises n ss) :
    Calls Try.prog 24 #[.slice A n c, .slice B m d] w fun e w' => e = .returned (.tuple #[.slice none 0 0, .int .i64 0, .int .i64 7]) ∧ Below w.heap.size w w' := by
  have C := Lib.hid (Ch.rise_any hs n hn)
  rw [decide_eq_false hR] at C
  clear hs hR
  go_enter Try.func24, Try.ntmps24
  go_wp2_with (fail)
  refine C.out.mono ?_; rintro e w1 ⟨rfl, hB⟩
  replace hB := Lib.hid hB
  go_wp2
  go_ret3
  exact ⟨rfl, hB.out⟩
set_option maxRecDepth 100000 in
set_option maxHeartbeats 1000000 in
theorem Ch.rpack_big {w : World} {A : Option Addr} {n c : Nat} {ws : List Int} {B : Option Addr} {m d : Nat} {ss : List Int} (h : Wo w A n c ws) (hs : In w B m d ss) (hn : n ≤ 1000000) (hR : Ch.Rises n ss) (hF : ¬ Ch.Fits ws ss) :
    Calls Try.prog 24 #[.slice A n c, .slice B m d] w fun e w' => e = .returned (.tuple #[.slice none 0 0, .int .i64 0, .int .i64 8]) ∧ Below w.heap.size w w' := by
  have C := Lib.hid (Ch.rise_any hs n hn)
  rw [decide_eq_true hR] at C
  have hlw := h.len
  have hlm := hs.len
  have hle := hs.le
  have hmx := hs.max
  unfold maxLen at hmx
  have hm1 : (m : Int) ≤ 9223372036854775807 := by omega
  have hB : m = 0 ∨ ∃ b off, B = some ⟨b, off, none⟩ := (Nat.eq_zero_or_pos m).imp_right hs.place
  have H := Lib.hid h
  have S := Lib.hid hs
  have hRF := Lib.hid (And.intro hR hF)
  clear h hs hmx hR hF
  go_enter Try.func24, Try.ntmps24
  go_wp2_with (fail)
  refine C.out.mono ?_; rintro e w1 ⟨rfl, hE⟩
  clear C
  have hA1 := ((Kept.refl w1).alloc #[] 45).below
  have hO := Lib.hid (Ow.new 45 .u32 w1 w.heap.size hE.size)
  have hg0 : w.heap.size ≤ w1.heap.size := hE.size
  replace hE := hE.trans (hA1.mono hE.size)
  have hW := Lib.hid (H.out.below hE)
  have hs1 : w.heap.size ≤ (w1.alloc (.cells #[] 45)).heap.size := hE.size
  replace hE := Lib.hid hE
  clear hA1
  go_wp2_with (with_reducible refine append_row (o := ⟨some 18, _, _, _, _, _⟩) Try.underlying22 Ch.info32 (by omega) rfl (.tmp 16) (.tmp 17) rfl w.heap.size w1.heap.size 0 0 [] rfl hO.out _ n c ws rfl hW.out (by omega) hs1 ?_; intro g c' w3 hO3 hG3)
  rw [List.nil_append, Nat.zero_add] at hO3
  have hE3 := Lib.hid (hE.out.grown hG3 hs1 (fun q e => by cases e; exact hg0))
  have hb0 : w.heap.size ≤ g := hO3.has.1
  replace hO3 := Lib.hid hO3
  clear hG3 hO hE hW hs1 hg0
  go_loopw [8, 9, 10] (fun a i _ wr => ∃ k : Nat, k ≤ m ∧ i = .int .i64 k ∧ a = .int .i64 (Ch.prev ss k + 1) ∧ Ow 45 .u32 w.heap.size g n c' (Ch.pk ws ss k) wr ∧ Below w.heap.size w wr ∧ (∀ j, j < k → Ch.val ws ss j ≤ 65535)) (fun _ i _ _ => m - (intOf i).toNat)
  case atStart => exact ⟨0, Nat.zero_le _, rfl, rfl, hO3.out, hE3.out, fun j hj => by omega⟩
  case round =>
    clear hO3 hE3
    obtain ⟨k, hk, rfl, rfl, hO, hE, ho⟩ := hrel
    by_cases d1 : k < m
    · have d2 : (k : Int) < m := by omega
      obtain ⟨s, hs1, hs2, hs3⟩ := Ch.rsite_nat hRF.out.1 k (by omega)
      rcases hB with h0 | ⟨b', off', rfl⟩
      · omega
      have g1 := (hE.cell (p := ⟨b', off' + k, none⟩) (S.out.lt (by omega))).trans (S.out.at k d1)
      have g2 := hO.at s hs2
      have hoff : (Ch.pk ws ss k).getD s 0 = ws.getD s 0 := Ch.pk_off k (fun j hj e => by
        have := Ch.apart hRF.out.1 j k (by omega) (by omega) (by omega)
        rw [hs1, Int.toNat_natCast] at this
        exact this e)
      rw [hoff] at g2
      have f1 := hO.free s
      have hv : Ch.val ws ss k = ws.getD s 0 := by unfold Ch.val; rw [hs1, Int.toNat_natCast]
      have c0 := (H.out.atR (by decide) s).1
      have p0 := Ch.prev_ge hRF.out.1 k (by omega)
      have p1 := Ch.prev_lt hRF.out.1 k (by omega)
      rw [hs1] at g1
      have hN := Lib.hid (show Ch.prev ss (k + 1) = (s : Int) from hs1)
      have hP := Lib.hid (show Ch.pk ws ss (k + 1) = (Ch.pk ws ss k).set s (ws.getD s 0 * 65536 + (Ch.prev ss k + 1)) by
        show (Ch.pk ws ss k).set (ss.getD k 0).toNat (Ch.val ws ss k * 65536 + (Ch.prev ss k + 1)) = _
        rw [hs1, Int.toNat_natCast, hv])
      have hsn : (s : Int) < n := by omega
      have hG := Lib.hid (show ∀ v, (wr.setCell ⟨g, s, none⟩ v).cell? ⟨b', off' + k, none⟩ = some (.int .i64 (s : Int)) from fun v => ((hE.setCell (p := ⟨g, s, none⟩) hb0 v).cell (p := ⟨b', off' + k, none⟩) (S.out.lt (by omega))).trans ((S.out.at k d1).trans (by rw [hs1])))
      by_cases c1 : ws.getD s 0 ≤ 65535
      · have R := Lib.hid (show ∀ j, j < k + 1 → Ch.val ws ss j ≤ 65535 from fun j hj => by
          rcases Nat.lt_or_ge j k with q | q
          · exact ho j q
          · rw [show j = k by omega, hv]; exact c1)
        have hO2 := Lib.hid (hO.set s (ws.getD s 0 * 65536 + (Ch.prev ss k + 1)))
        have hE2 := Lib.hid (hE.setCell (p := ⟨g, s, none⟩) hb0 (.int .u32 (ws.getD s 0 * 65536 + (Ch.prev ss k + 1))))
        rw [← hP.out] at hO2
        clear hs1 hP hO hE hoff hv ho
        generalize ws.getD s 0 = x at *
        have y0 : 0 ≤ Ch.prev ss k + 1 ∧ Ch.prev ss k + 1 ≤ 65535 := by omega
        generalize Ch.prev ss k + 1 = y at *
        obtain ⟨y0, y1⟩ := y0
        have c2 : ¬ 65535 < x := by omega
        have g4 : (wr.setCell ⟨g, s, none⟩ (.int .u32 (x * 65536 + y))).cell? ⟨b', off' + k, none⟩ = some (.int .i64 (s : Int)) := hG.out _
        go_wp2
        go_roundw
        case rel => exact ⟨k + 1, by omega, by go_num, by rw [hN.out], hO2.out, hE2.out, R.out⟩
        case measure => simp [intOf]; omega
      · have c2 : 65535 < ws.getD s 0 := by omega
        replace hO := Lib.hid hO
        replace hE := Lib.hid hE
        clear ho hv hoff hs1 hP c1
        generalize ws.getD s 0 = x at *
        go_wp2
        go_ret3
        exact ⟨rfl, hE.out⟩
    · exact absurd (fun j hj => ho j (by omega)) hRF.out.2
set_option maxRecDepth 100000 in
set_option maxHeartbeats 1000000 in
theorem Ch.rpack_yes {w : World} {A : Option Addr} {n c : Nat} {ws : List Int} {B : Option Addr} {m d : Nat} {ss : List Int} (h : Wo w A n c ws) (hs : In w B m d ss) (hn : n ≤ 1000000) (hR : Ch.Rises n ss) (hF : Ch.Fits ws ss) :
    Calls Try.prog 24 #[.slice A n c, .slice B m d] w fun e w' => ∃ g c', e = .returned (.tuple #[.slice (some ⟨g, 0, none⟩) n c', .int .i64 (Ch.prev ss m + 1), .int .i64 0]) ∧ Ow 45 .u32 w.heap.size g n c' (Ch.pk ws ss m) w' ∧ Below w.heap.size w w' := by
  have C := Lib.hid (Ch.rise_any hs n hn)
  rw [decide_eq_true hR] at C
  have hlw := h.len
  have hlm := hs.len
  have hle := hs.le
  have hmx := hs.max
  unfold maxLen at hmx
  have hm1 : (m : Int) ≤ 9223372036854775807 := by omega
  have hB : m = 0 ∨ ∃ b off, B = some ⟨b, off, none⟩ := (Nat.eq_zero_or_pos m).imp_right hs.place
  have H := Lib.hid h
  have S := Lib.hid hs
  have hRF := Lib.hid (And.intro hR hF)
  clear h hs hmx hR hF
  go_enter Try.func24, Try.ntmps24
  go_wp2_with (fail)
  refine C.out.mono ?_; rintro e w1 ⟨rfl, hE⟩
  clear C
  have hA1 := ((Kept.refl w1).alloc #[] 45).below
  have hO := Lib.hid (Ow.new 45 .u32 w1 w.heap.size hE.size)
  have hg0 : w.heap.size ≤ w1.heap.size := hE.size
  replace hE := hE.trans (hA1.mono hE.size)
  have hW := Lib.hid (H.out.below hE)
  have hs1 : w.heap.size ≤ (w1.alloc (.cells #[] 45)).heap.size := hE.size
  replace hE := Lib.hid hE
  clear hA1
  go_wp2_with (with_reducible refine append_row (o := ⟨some 18, _, _, _, _, _⟩) Try.underlying22 Ch.info32 (by omega) rfl (.tmp 16) (.tmp 17) rfl w.heap.size w1.heap.size 0 0 [] rfl hO.out _ n c ws rfl hW.out (by omega) hs1 ?_; intro g c' w3 hO3 hG3)
  rw [List.nil_append, Nat.zero_add] at hO3
  have hE3 := Lib.hid (hE.out.grown hG3 hs1 (fun q e => by cases e; exact hg0))
  have hb0 : w.heap.size ≤ g := hO3.has.1
  replace hO3 := Lib.hid hO3
  clear hG3 hO hE hW hs1 hg0
  go_loopw [8, 9, 10] (fun a i _ wr => ∃ k : Nat, k ≤ m ∧ i = .int .i64 k ∧ a = .int .i64 (Ch.prev ss k + 1) ∧ Ow 45 .u32 w.heap.size g n c' (Ch.pk ws ss k) wr ∧ Below w.heap.size w wr) (fun _ i _ _ => m - (intOf i).toNat)
  case atStart => exact ⟨0, Nat.zero_le _, rfl, rfl, hO3.out, hE3.out⟩
  case round =>
    clear hO3 hE3
    obtain ⟨k, hk, rfl, rfl, hO, hE⟩ := hrel
    by_cases d1 : k < m
    · have d2 : (k : Int) < m := by omega
      obtain ⟨s, hs1, hs2, hs3⟩ := Ch.rsite_nat hRF.out.1 k (by omega)
      rcases hB with h0 | ⟨b', off', rfl⟩
      · omega
      have g1 := (hE.cell (p := ⟨b', off' + k, none⟩) (S.out.lt (by omega))).trans (S.out.at k d1)
      have g2 := hO.at s hs2
      have hoff : (Ch.pk ws ss k).getD s 0 = ws.getD s 0 := Ch.pk_off k (fun j hj e => by
        have := Ch.apart hRF.out.1 j k (by omega) (by omega) (by omega)
        rw [hs1, Int.toNat_natCast] at this
        exact this e)
      rw [hoff] at g2
      have f1 := hO.free s
      have hv : Ch.val ws ss k = ws.getD s 0 := by unfold Ch.val; rw [hs1, Int.toNat_natCast]
      have c0 := (H.out.atR (by decide) s).1
      have p0 := Ch.prev_ge hRF.out.1 k (by omega)
      have p1 := Ch.prev_lt hRF.out.1 k (by omega)
      rw [hs1] at g1
      have hN := Lib.hid (show Ch.prev ss (k + 1) = (s : Int) from hs1)
      have hP := Lib.hid (show Ch.pk ws ss (k + 1) = (Ch.pk ws ss k).set s (ws.getD s 0 * 65536 + (Ch.prev ss k + 1)) by
        show (Ch.pk ws ss k).set (ss.getD k 0).toNat (Ch.val ws ss k * 65536 + (Ch.prev ss k + 1)) = _
        rw [hs1, Int.toNat_natCast, hv])
      have hsn : (s : Int) < n := by omega
      have hG := Lib.hid (show ∀ v, (wr.setCell ⟨g, s, none⟩ v).cell? ⟨b', off' + k, none⟩ = some (.int .i64 (s : Int)) from fun v => ((hE.setCell (p := ⟨g, s, none⟩) hb0 v).cell (p := ⟨b', off' + k, none⟩) (S.out.lt (by omega))).trans ((S.out.at k d1).trans (by rw [hs1])))
      have c1 : ws.getD s 0 ≤ 65535 := by rw [← hv]; exact hRF.out.2 k (by omega)
      have hO2 := Lib.hid (hO.set s (ws.getD s 0 * 65536 + (Ch.prev ss k + 1)))
      have hE2 := Lib.hid (hE.setCell (p := ⟨g, s, none⟩) hb0 (.int .u32 (ws.getD s 0 * 65536 + (Ch.prev ss k + 1))))
      rw [← hP.out] at hO2
      clear hs1 hP hO hE hoff hv
      generalize ws.getD s 0 = x at *
      have y0 : 0 ≤ Ch.prev ss k + 1 ∧ Ch.prev ss k + 1 ≤ 65535 := by omega
      generalize Ch.prev ss k + 1 = y at *
      obtain ⟨y0, y1⟩ := y0
      have c2 : ¬ 65535 < x := by omega
      have g4 : (wr.setCell ⟨g, s, none⟩ (.int .u32 (x * 65536 + y))).cell? ⟨b', off' + k, none⟩ = some (.int .i64 (s : Int)) := hG.out _
      go_wp2
      go_roundw
      case rel => exact ⟨k + 1, by omega, by go_num, by rw [hN.out], hO2.out, hE2.out⟩
      case measure => simp [intOf]; omega
    · have d2 : ¬ (k : Int) < m := by omega
      obtain rfl : k = m := by omega
      replace hO := Lib.hid hO
      replace hE := Lib.hid hE
      go_wp2
      go_ret3
      exact ⟨g, c', rfl, hO.out, hE.out⟩
end Go.Proofs.Ytmdknjfhdmigdaa
