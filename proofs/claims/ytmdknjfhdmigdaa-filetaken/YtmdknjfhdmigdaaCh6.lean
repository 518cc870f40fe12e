/-
  The contracts of Pack, the program's and the document's, whatever the words and the sites are.
-/
import Derived.Test.YtmdknjfhdmigdaaCh4
import Derived.Test.YtmdknjfhdmigdaaCh5
namespace Go.Proofs.Ytmdknjfhdmigdaa
open Go.RowKit
set_option linter.unusedVariables false
set_option linter.unusedSimpArgs false
set_option maxRecDepth 100000
theorem Ch.pE_no {ws ss : List Int} (h : ¬ Ch.Rises ws.length ss) : Ch.pE ws ss = 7 ∧ Ch.pH ws ss = 0 ∧ Ch.pW ws ss = [] := by
  have e : Ch.pE ws ss = 7 := by unfold Ch.pE; rw [if_neg h]
  exact ⟨e, by unfold Ch.pH; rw [e, if_neg (by decide)], by unfold Ch.pW; rw [e, if_neg (by decide)]⟩
theorem Ch.pE_big {ws ss : List Int} (h : Ch.Rises ws.length ss) (h2 : ¬ Ch.Fits ws ss) : Ch.pE ws ss = 8 ∧ Ch.pH ws ss = 0 ∧ Ch.pW ws ss = [] := by
  have e : Ch.pE ws ss = 8 := by unfold Ch.pE; rw [if_pos h, if_neg h2]
  exact ⟨e, by unfold Ch.pH; rw [e, if_neg (by decide)], by unfold Ch.pW; rw [e, if_neg (by decide)]⟩
theorem Ch.pE_yes {ws ss : List Int} (h : Ch.Rises ws.length ss) (h2 : Ch.Fits ws ss) : Ch.pE ws ss = 0 ∧ Ch.pH ws ss = Ch.prev ss ss.length + 1 ∧ Ch.pW ws ss = Ch.pk ws ss ss.length := by
  have e : Ch.pE ws ss = 0 := by unfold Ch.pE; rw [if_pos h, if_pos h2]
  exact ⟨e, by unfold Ch.pH; rw [if_pos e], by unfold Ch.pW; rw [if_pos e]⟩
theorem Ch.pk_rng {ws ss : List Int} (hw : ∀ x ∈ ws, 0 ≤ x ∧ x < 4294967296) (h : Ch.Rises ws.length ss) (h2 : Ch.Fits ws ss) : ∀ k, k ≤ ss.length → ∀ x ∈ Ch.pk ws ss k, 0 ≤ x ∧ x < 4294967296
  | 0, _ => hw
  | k + 1, hk => fun x hx => by
    rcases List.mem_or_eq_of_mem_set (show x ∈ (Ch.pk ws ss k).set _ _ from hx) with q | q
    · exact Ch.pk_rng hw h h2 k (by omega) x q
    · have p0 := Ch.prev_ge h k (by omega)
      have p1 := Ch.prev_lt h k (by omega)
      have v1 := h2 k (by omega)
      have v0 : 0 ≤ Ch.val ws ss k := by
        unfold Ch.val
        rw [List.getD_eq_getElem?_getD]
        cases hq : ws[(ss.getD k 0).toNat]? with
        | none => simp
        | some y => exact (hw y (List.mem_of_getElem? hq)).1
      omega
theorem Ch.pW_rng {ws : List Int} (hw : ∀ x ∈ ws, 0 ≤ x ∧ x < 4294967296) (ss : List Int) : ∀ x ∈ Ch.pW ws ss, 0 ≤ x ∧ x < 4294967296 := by
  by_cases h : Ch.Rises ws.length ss
  · by_cases h2 : Ch.Fits ws ss
    · rw [(Ch.pE_yes h h2).2.2]
      exact Ch.pk_rng hw h h2 _ (Nat.le_refl _)
    · rw [(Ch.pE_big h h2).2.2]; simp
  · rw [(Ch.pE_no h).2.2]; simp
theorem Ch.pack_any {w : World} {A : Option Addr} {n c : Nat} {ws : List Int} {B : Option Addr} {m d : Nat} {ss : List Int} (h : Wo w A n c ws) (hs : In w B m d ss) (hn : n ≤ 1000000) :
    Calls Try.prog 21 #[.slice A n c, .slice B m d] w fun e w' => ∃ A' n' c', e = .returned (.tuple #[.slice A' n' c', .int .i64 (Ch.pH ws ss), .int .i64 (Ch.pE ws ss)]) ∧ On 45 .u32 w.heap.size A' n' c' (Ch.pW ws ss) w' ∧ Below w.heap.size w w' := by
  have hl := h.len
  have hlm := hs.len
  by_cases hR : Ch.Rises ws.length ss
  · by_cases hF : Ch.Fits ws ss
    · obtain ⟨e1, e2, e3⟩ := Ch.pE_yes hR hF
      rw [e1, e2, e3, hlm]
      rw [hl] at hR
      exact (Ch.pack_yes h hs hn hR hF).mono fun e w' ⟨A', c', q1, q2, q3⟩ => ⟨A', n, c', q1, q2, q3⟩
    · obtain ⟨e1, e2, e3⟩ := Ch.pE_big hR hF
      rw [e1, e2, e3]
      rw [hl] at hR
      exact (Ch.pack_big h hs hn hR hF).mono fun e w' ⟨q1, q2⟩ => ⟨none, 0, 0, q1, On.none _ _ _ _, q2 ▸ Below.refl _ _⟩
  · obtain ⟨e1, e2, e3⟩ := Ch.pE_no hR
    rw [e1, e2, e3]
    rw [hl] at hR
    exact (Ch.pack_no hs hn hR).mono fun e w' ⟨q1, q2⟩ => ⟨none, 0, 0, q1, On.none _ _ _ _, q2 ▸ Below.refl _ _⟩
theorem Ch.rpack_any {w : World} {A : Option Addr} {n c : Nat} {ws : List Int} {B : Option Addr} {m d : Nat} {ss : List Int} (h : Wo w A n c ws) (hs : In w B m d ss) (hn : n ≤ 1000000) :
    Calls Try.prog 24 #[.slice A n c, .slice B m d] w fun e w' => ∃ A' n' c', e = .returned (.tuple #[.slice A' n' c', .int .i64 (Ch.pH ws ss), .int .i64 (Ch.pE ws ss)]) ∧ On 45 .u32 w.heap.size A' n' c' (Ch.pW ws ss) w' ∧ Below w.heap.size w w' := by
  have hl := h.len
  have hlm := hs.len
  by_cases hR : Ch.Rises ws.length ss
  · by_cases hF : Ch.Fits ws ss
    · obtain ⟨e1, e2, e3⟩ := Ch.pE_yes hR hF
      rw [e1, e2, e3, hlm]
      rw [hl] at hR
      exact (Ch.rpack_yes h hs hn hR hF).mono fun e w' ⟨g, c', q1, q2, q3⟩ => ⟨_, n, c', q1, q2.on, q3⟩
    · obtain ⟨e1, e2, e3⟩ := Ch.pE_big hR hF
      rw [e1, e2, e3]
      rw [hl] at hR
      exact (Ch.rpack_big h hs hn hR hF).mono fun e w' ⟨q1, q2⟩ => ⟨none, 0, 0, q1, On.none _ _ _ _, q2⟩
  · obtain ⟨e1, e2, e3⟩ := Ch.pE_no hR
    rw [e1, e2, e3]
    rw [hl] at hR
    exact (Ch.rpack_no hs hn hR).mono fun e w' ⟨q1, q2⟩ => ⟨none, 0, 0, q1, On.none _ _ _ _, q2⟩
end Go.Proofs.Ytmdknjfhdmigdaa
