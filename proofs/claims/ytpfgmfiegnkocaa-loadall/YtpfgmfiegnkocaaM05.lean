/-
  Joined: Ch4, Ch5, Ch6.
-/
import Derived.Test.YtpfgmfiegnkocaaCh3
/-
  The contract of Pack of package chain.
-/
namespace Go.Proofs.Ytpfgmfiegnkocaa
open Go.RowKit
set_option linter.unusedVariables false
set_option linter.unusedSimpArgs false
set_option maxRecDepth 100000
set_option maxRecDepth 100000
theorem Ch.site_nat {n : Nat} {ss : List Int} (h : Ch.Rises n ss) (k : Nat) (hk : k < ss.length) : ∃ s : Nat, ss.getD k 0 = (s : Int) ∧ s < n ∧ s ≤ 65534 := by
  have h1 := Ch.at_ge h k hk
  exact ⟨(ss.getD k 0).toNat, by omega, by omega, by omega⟩
theorem Ch.none_rise {ss : List Int} (h : Ch.Rises 0 ss) : ss.length = 0 := by
  rcases Nat.eq_zero_or_pos ss.length with c | c
  · exact c
  · have := Ch.at_ge h 0 c; omega
theorem Ch.pack_no {w : World} {A : Option Addr} {n c : Nat} {B : Option Addr} {m d : Nat} {ss : List Int} (hs : In w B m d ss) (hn : n ≤ 1000000) (hR : ¬ Ch.Rises n ss) :
    Calls Try.prog 39 #[.slice A n c, .slice B m d] w fun e w' => e = .returned (.tuple #[.slice none 0 0, .int .i64 0, .int .i64 7]) ∧ w = w' := by
  have C := Lib.hid (Ch.sites_any hs n hn)
  rw [decide_eq_false hR] at C
  clear hs hR
  go_enter Try.func39, Try.ntmps39
  go_wp2_with (fail)
  refine C.out.mono ?_; rintro e w' ⟨rfl, rfl⟩
  go_wp2
  go_ret3
  exact ⟨rfl, rfl⟩
set_option maxRecDepth 100000 in
theorem Ch.pack_big {w : World} {A : Option Addr} {n c : Nat} {ws : List Int} {B : Option Addr} {m d : Nat} {ss : List Int} (h : Wo w A n c ws) (hs : In w B m d ss) (hn : n ≤ 1000000) (hR : Ch.Rises n ss) (hF : ¬ Ch.Fits ws ss) :
    Calls Try.prog 39 #[.slice A n c, .slice B m d] w fun e w' => e = .returned (.tuple #[.slice none 0 0, .int .i64 0, .int .i64 8]) ∧ w = w' := by
  have C := Lib.hid (Ch.sites_any hs n hn)
  rw [decide_eq_true hR] at C
  have hlm := hs.len
  have hle := hs.le
  have hmx := hs.max
  unfold maxLen at hmx
  have hm1 : (m : Int) ≤ 9223372036854775807 := by omega
  have hA : n = 0 ∨ ∃ b off, A = some ⟨b, off, none⟩ := (Nat.eq_zero_or_pos n).imp_right h.place
  have hB : m = 0 ∨ ∃ b off, B = some ⟨b, off, none⟩ := (Nat.eq_zero_or_pos m).imp_right hs.place
  have H := Lib.hid h
  have S := Lib.hid hs
  clear h hs hmx
  go_enter Try.func39, Try.ntmps39
  go_wp2_with (fail)
  refine C.out.mono ?_; rintro e w' ⟨rfl, rfl⟩
  clear C
  go_wp2
  go_loopw [8, 20] (fun _ i wr => ∃ k : Nat, k ≤ m ∧ i = .int .i64 k ∧ (∀ j, j < k → Ch.val ws ss j ≤ 65535) ∧ w = wr) (fun _ i _ => m - (intOf i).toNat)
  case atStart => exact ⟨0, Nat.zero_le _, rfl, fun j hj => by omega, rfl⟩
  case round =>
    obtain ⟨k, hk, rfl, ho, rfl⟩ := hrel
    by_cases d1 : k < m
    · have d2 : (k : Int) < m := by omega
      obtain ⟨s, hs1, hs2, hs3⟩ := Ch.site_nat hR k (by omega)
      rcases hB with h0 | ⟨b', off', rfl⟩
      · omega
      rcases hA with h0 | ⟨b, off, rfl⟩
      · omega
      have g1 := S.out.at k d1
      have g2 := H.out.at s hs2
      have hv : Ch.val ws ss k = ws.getD s 0 := by unfold Ch.val; rw [hs1, Int.toNat_natCast]
      rw [hs1] at g1
      have hsn : (s : Int) < n := by omega
      by_cases c1 : ws.getD s 0 ≤ 65535
      · have R := Lib.hid (show ∀ j, j < k + 1 → Ch.val ws ss j ≤ 65535 from fun j hj => by
          rcases Nat.lt_or_ge j k with q | q
          · exact ho j q
          · rw [show j = k by omega, hv]; exact c1)
        have c2 : ¬ 65535 < ws.getD s 0 := by omega
        clear ho hv hs1 c1 hR hF
        generalize ws.getD s 0 = x at *
        go_wp2
        go_roundw
        case rel => exact ⟨k + 1, by omega, by go_num, R.out, by trivial⟩
        case measure => simp [intOf]; omega
      · have c2 : 65535 < ws.getD s 0 := by omega
        clear ho hv hs1 c1 hR hF
        generalize ws.getD s 0 = x at *
        go_wp2
        go_ret3
        exact ⟨rfl, rfl⟩
    · exact absurd (fun j hj => ho j (by omega)) hF
set_option maxRecDepth 100000 in
set_option maxHeartbeats 1000000 in
theorem Ch.pack_yes {w : World} {A : Option Addr} {n c : Nat} {ws : List Int} {B : Option Addr} {m d : Nat} {ss : List Int} (h : Wo w A n c ws) (hs : In w B m d ss) (hn : n ≤ 1000000) (hR : Ch.Rises n ss) (hF : Ch.Fits ws ss) :
    Calls Try.prog 39 #[.slice A n c, .slice B m d] w fun e w' => ∃ A' c', e = .returned (.tuple #[.slice A' n c', .int .i64 (Ch.prev ss m + 1), .int .i64 0]) ∧ On 39 .u32 w.heap.size A' n c' (Ch.pk ws ss m) w' ∧ Below w.heap.size w w' := by
  have C := Lib.hid (Ch.sites_any hs n hn)
  rw [decide_eq_true hR] at C
  have CC := Lib.hid (Ch.clone_any h hn)
  have hlm := hs.len
  have hle := hs.le
  have hmx := hs.max
  unfold maxLen at hmx
  have hm1 : (m : Int) ≤ 9223372036854775807 := by omega
  have hA : n = 0 ∨ ∃ b off, A = some ⟨b, off, none⟩ := (Nat.eq_zero_or_pos n).imp_right h.place
  have hB : m = 0 ∨ ∃ b off, B = some ⟨b, off, none⟩ := (Nat.eq_zero_or_pos m).imp_right hs.place
  have H := Lib.hid h
  have S := Lib.hid hs
  have hRF := Lib.hid (And.intro hR hF)
  clear h hs hmx hR hF
  go_enter Try.func39, Try.ntmps39
  go_wp2_with (fail)
  refine C.out.mono ?_; rintro e w' ⟨rfl, rfl⟩
  clear C
  go_wp2
  go_loopw [8, 20] (fun _ i wr => ∃ k : Nat, k ≤ m ∧ i = .int .i64 k ∧ w = wr) (fun _ i _ => m - (intOf i).toNat)
  case atStart => exact ⟨0, Nat.zero_le _, rfl, rfl⟩
  case round =>
    obtain ⟨k, hk, rfl, rfl⟩ := hrel
    by_cases d1 : k < m
    · have d2 : (k : Int) < m := by omega
      obtain ⟨s, hs1, hs2, hs3⟩ := Ch.site_nat hRF.out.1 k (by omega)
      rcases hB with h0 | ⟨b', off', rfl⟩
      · omega
      rcases hA with h0 | ⟨b, off, rfl⟩
      · omega
      have g1 := S.out.at k d1
      have g2 := H.out.at s hs2
      have c2 : ¬ 65535 < ws.getD s 0 := by
        have := hRF.out.2 k (by omega)
        unfold Ch.val at this
        rw [hs1, Int.toNat_natCast] at this
        omega
      rw [hs1] at g1
      have hsn : (s : Int) < n := by omega
      clear hs1
      generalize ws.getD s 0 = x at *
      go_wp2
      go_roundw
      case rel => exact ⟨k + 1, by omega, by go_num, by trivial⟩
      case measure => simp [intOf]; omega
    · have d2 : ¬ (k : Int) < m := by omega
      go_wp2_with (fail)
      refine CC.out.mono ?_; rintro e w1 ⟨A', c', rfl, hO, hE⟩
      clear CC
      rcases hO.cases with ⟨rfl, rfl, rfl, rfl⟩ | ⟨g, rfl, hO⟩
      · have h0 := Ch.none_rise hRF.out.1
        obtain rfl : m = 0 := by omega
        replace hE := Lib.hid hE
        clear hO
        go_wp2
        go_loopw [10, 12, 34] (fun a _ i wr => a = .int .i64 0 ∧ i = .int .i64 0 ∧ w1 = wr) (fun _ _ _ _ => 0)
        case atStart => exact ⟨rfl, rfl, rfl⟩
        case round =>
          obtain ⟨rfl, rfl, rfl⟩ := hrel
          go_wp2
          go_ret3
          exact ⟨none, 0, rfl, On.none _ _ _ _, hE.out⟩
      · have hO0 := Lib.hid (show Ow 39 .u32 w.heap.size g n c' ws w1 from hO)
        replace hE := Lib.hid hE
        have hb0 : w.heap.size ≤ g := hO0.out.has.1
        clear hO d1 d2
        go_wp2
        go_loopw [10, 12, 34] (fun a _ i wr => ∃ k : Nat, k ≤ m ∧ i = .int .i64 k ∧ a = .int .i64 (Ch.prev ss k + 1) ∧ Ow 39 .u32 w.heap.size g n c' (Ch.pk ws ss k) wr ∧ Below w.heap.size w wr) (fun _ _ i _ => m - (intOf i).toNat)
        case atStart => exact ⟨0, Nat.zero_le _, rfl, rfl, hO0.out, hE.out⟩
        case round =>
          clear hO0 hE hk
          obtain ⟨k, hk, rfl, rfl, hO, hE⟩ := hrel
          by_cases d1 : k < m
          · have d2 : (k : Int) < m := by omega
            obtain ⟨s, hs1, hs2, hs3⟩ := Ch.site_nat hRF.out.1 k (by omega)
            rcases hB with h0 | ⟨b', off', rfl⟩
            · omega
            rcases hA with h0 | ⟨b, off, rfl⟩
            · omega
            have g1 := (hE.cell (p := ⟨b', off' + k, none⟩) (S.out.lt (by omega))).trans (S.out.at k d1)
            have g2 := (hE.cell (p := ⟨b, off + s, none⟩) (H.out.lt (by omega))).trans (H.out.at s hs2)
            have f1 := hO.free s
            obtain ⟨v0, g3⟩ := hO.cell s hs2
            have c1 : ws.getD s 0 ≤ 65535 := by
              have := hRF.out.2 k (by omega)
              unfold Ch.val at this
              rw [hs1, Int.toNat_natCast] at this
              exact this
            have c0 := (H.out.atR (by decide) s).1
            have p0 := Ch.prev_ge hRF.out.1 k (by omega)
            have p1 := Ch.prev_lt hRF.out.1 k (by omega)
            rw [hs1] at g1
            have hN := Lib.hid (show Ch.prev ss (k + 1) = (s : Int) from hs1)
            have hP := Lib.hid (show Ch.pk ws ss (k + 1) = (Ch.pk ws ss k).set s (ws.getD s 0 * 65536 + (Ch.prev ss k + 1)) by
              show (Ch.pk ws ss k).set (ss.getD k 0).toNat (Ch.val ws ss k * 65536 + (Ch.prev ss k + 1)) = _
              unfold Ch.val
              rw [hs1, Int.toNat_natCast])
            have hJ := Ch.or_join (ws.getD s 0) (Ch.prev ss k + 1) c0 c1 (by omega) (by omega)
            have hO2 := Lib.hid (hO.set s (ws.getD s 0 * 65536 + (Ch.prev ss k + 1)))
            have hE2 := Lib.hid (hE.setCell (p := ⟨g, s, none⟩) hb0 (.int .u32 (ws.getD s 0 * 65536 + (Ch.prev ss k + 1))))
            rw [← hP.out] at hO2
            have hsn : (s : Int) < n := by omega
            clear hs1 hP hO hE
            generalize ws.getD s 0 = x at *
            have y0 : 0 ≤ Ch.prev ss k + 1 ∧ Ch.prev ss k + 1 ≤ 65535 := by omega
            generalize Ch.prev ss k + 1 = y at *
            obtain ⟨y0, y1⟩ := y0
            replace hJ := Lib.hid hJ
            go_wp2
            rw [hJ.out]
            go_roundw
            case rel => exact ⟨k + 1, by omega, by go_num, by rw [hN.out], hO2.out, hE2.out⟩
            case measure => simp [intOf]; omega
          · have d2 : ¬ (k : Int) < m := by omega
            obtain rfl : k = m := by omega
            replace hO := Lib.hid hO
            replace hE := Lib.hid hE
            go_wp2
            go_ret3
            exact ⟨some ⟨g, 0, none⟩, c', rfl, hO.out.on, hE.out⟩
end Go.Proofs.Ytpfgmfiegnkocaa
/-
  The contract of the document's Pack.
-/
namespace Go.Proofs.Ytpfgmfiegnkocaa
open Go.RowKit
set_option linter.unusedVariables false
set_option linter.unusedSimpArgs false
set_option maxRecDepth 100000
theorem Ch.rsite_nat {n : Nat} {ss : List Int} (h : Ch.Rises n ss) (k : Nat) (hk : k < ss.length) : ∃ s : Nat, ss.getD k 0 = (s : Int) ∧ s < n ∧ s ≤ 65534 := by
  have h1 := Ch.at_ge h k hk
  exact ⟨(ss.getD k 0).toNat, by omega, by omega, by omega⟩
end Go.Proofs.Ytpfgmfiegnkocaa
/-
  The contracts of Pack, the program's and the document's, whatever the words and the sites are.
-/
namespace Go.Proofs.Ytpfgmfiegnkocaa
open Go.RowKit
set_option linter.unusedVariables false
set_option linter.unusedSimpArgs false
set_option maxRecDepth 100000
theorem Ch.pE_no {ws ss : List Int} (h : ¬ Ch.Rises ws.length ss) : Ch.pE ws ss = 7 ∧ Ch.pH ws ss = 0 ∧ Ch.pW ws ss = [] := by
  have e : Ch.pE ws ss = 7 := by unfold Ch.pE; rw [if_neg h]
  exact ⟨e, by unfold Ch.pH; rw [e, if_neg (by decide)], by unfold Ch.pW; rw [e, if_neg (by decide)]⟩
theorem Ch.pE_big {ws ss : List Int} (h : Ch.Rises ws.length ss) (h2 : ¬ Ch.Fits ws ss) : Ch.pE ws ss = 8 ∧ Ch.pH ws ss = 0 ∧ Ch.pW ws ss = [] := by
  have e : Ch.pE ws ss = 8 := by unfold Ch.pE; rw [if_pos h, if_neg h2]
  exact ⟨e, by unfold Ch.pH; rw [e, if_neg (by decide)], by unfold Ch.pW; rw [e, if_neg (by decide)]⟩
theorem Ch.pE_yes {ws ss : List Int} (h : Ch.Rises ws.length ss) (h2 : Ch.Fits ws ss) : Ch.pE ws ss = 0 ∧ Ch.pH ws ss = Ch.prev ss ss.length + 1 ∧ Ch.pW ws ss = Ch.pk ws ss ss.length := by
  have e : Ch.pE ws ss = 0 := by unfold Ch.pE; rw [if_pos h, if_pos h2]
  exact ⟨e, by unfold Ch.pH; rw [if_pos e], by unfold Ch.pW; rw [if_pos e]⟩
theorem Ch.pk_rng {ws ss : List Int} (hw : ∀ x ∈ ws, 0 ≤ x ∧ x < 4294967296) (h : Ch.Rises ws.length ss) (h2 : Ch.Fits ws ss) : ∀ k, k ≤ ss.length → ∀ x ∈ Ch.pk ws ss k, 0 ≤ x ∧ x < 4294967296
  | 0, _ => hw
  | k + 1, hk => fun x hx => by
    rcases List.mem_or_eq_of_mem_set (show x ∈ (Ch.pk ws ss k).set _ _ from hx) with q | q
    · exact Ch.pk_rng hw h h2 k (by omega) x q
    · have p0 := Ch.prev_ge h k (by omega)
      have p1 := Ch.prev_lt h k (by omega)
      have v1 := h2 k (by omega)
      have v0 : 0 ≤ Ch.val ws ss k := by
        unfold Ch.val
        rw [List.getD_eq_getElem?_getD]
        cases hq : ws[(ss.getD k 0).toNat]? with
        | none => simp
        | some y => exact (hw y (List.mem_of_getElem? hq)).1
      omega
theorem Ch.pW_rng {ws : List Int} (hw : ∀ x ∈ ws, 0 ≤ x ∧ x < 4294967296) (ss : List Int) : ∀ x ∈ Ch.pW ws ss, 0 ≤ x ∧ x < 4294967296 := by
  by_cases h : Ch.Rises ws.length ss
  · by_cases h2 : Ch.Fits ws ss
    · rw [(Ch.pE_yes h h2).2.2]
      exact Ch.pk_rng hw h h2 _ (Nat.le_refl _)
    · rw [(Ch.pE_big h h2).2.2]; simp
  · rw [(Ch.pE_no h).2.2]; simp
theorem Ch.pack_any {w : World} {A : Option Addr} {n c : Nat} {ws : List Int} {B : Option Addr} {m d : Nat} {ss : List Int} (h : Wo w A n c ws) (hs : In w B m d ss) (hn : n ≤ 1000000) :
    Calls Try.prog 39 #[.slice A n c, .slice B m d] w fun e w' => ∃ A' n' c', e = .returned (.tuple #[.slice A' n' c', .int .i64 (Ch.pH ws ss), .int .i64 (Ch.pE ws ss)]) ∧ On 39 .u32 w.heap.size A' n' c' (Ch.pW ws ss) w' ∧ Below w.heap.size w w' := by
  have hl := h.len
  have hlm := hs.len
  by_cases hR : Ch.Rises ws.length ss
  · by_cases hF : Ch.Fits ws ss
    · obtain ⟨e1, e2, e3⟩ := Ch.pE_yes hR hF
      rw [e1, e2, e3, hlm]
      rw [hl] at hR
      exact (Ch.pack_yes h hs hn hR hF).mono fun e w' ⟨A', c', q1, q2, q3⟩ => ⟨A', n, c', q1, q2, q3⟩
    · obtain ⟨e1, e2, e3⟩ := Ch.pE_big hR hF
      rw [e1, e2, e3]
      rw [hl] at hR
      exact (Ch.pack_big h hs hn hR hF).mono fun e w' ⟨q1, q2⟩ => ⟨none, 0, 0, q1, On.none _ _ _ _, q2 ▸ Below.refl _ _⟩
  · obtain ⟨e1, e2, e3⟩ := Ch.pE_no hR
    rw [e1, e2, e3]
    rw [hl] at hR
    exact (Ch.pack_no hs hn hR).mono fun e w' ⟨q1, q2⟩ => ⟨none, 0, 0, q1, On.none _ _ _ _, q2 ▸ Below.refl _ _⟩
end Go.Proofs.Ytpfgmfiegnkocaa
