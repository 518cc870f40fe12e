/-
  A slice of calls that came in; MemoryPlays for every one.
-/
import Derived.Test.YtkefggnocmmeoaaFrame3
import Derived.Test.YtkefggnocmmeoaaMem9
namespace Go.Proofs.Ytkefggnocmmeoaa
open Go.ChangeShapes Go.WideShapes Go.RowKit
set_option linter.unusedVariables false
set_option linter.unusedSimpArgs false
/-- a call's shape -/
def callSh : Sh := .cons (.int .i64) (.cons (.int .u32) (.cons (.int .u32) (.cons (.sl (.int .u32)) .nil)))
theorem sees_call {w : World} {es : List Value} (h : Sees w callSh es) : ∃ K a x A n c, es = [.int .i64 K, .int .u32 a, .int .u32 x, .slice A n c] ∧ (0 ≤ a ∧ a < 4294967296) ∧ (0 ≤ x ∧ x < 4294967296) ∧ ∃ xs, Ws w A n c xs := by
  obtain ⟨c1, d1, rfl, _, ⟨K, rfl, _⟩, h⟩ := h
  obtain ⟨c2, d2, rfl, _, ⟨a, rfl, ha⟩, h⟩ := h
  obtain ⟨c3, d3, rfl, _, ⟨x, rfl, hx⟩, h⟩ := h
  obtain ⟨c4, d4, rfl, hl, h4, h⟩ := h
  have hd : d4 = [] := h
  subst hd
  have hs : ∃ A n c, c4 = [.slice A n c] := by
    rcases h4 with rfl | ⟨ad, len, cap, rfl, _⟩
    · exact ⟨_, _, _, rfl⟩
    · exact ⟨_, _, _, rfl⟩
  obtain ⟨A, n, c, rfl⟩ := hs
  exact ⟨K, a, x, A, n, c, rfl, wf_u32 ha, wf_u32 hx, sees_ws h4⟩
theorem sees_calls {w : World} {A : Option Addr} {n c : Nat} (h : Sees w (.sl callSh) [.slice A n c]) : n ≤ c ∧ c ≤ maxLen ∧ (n = 0 ∨ ∃ b off, A = some ⟨b, off, none⟩ ∧ b < w.heap.size ∧ ∀ i, i < n → ∃ K a x A m c xs, CallAt w b (off + i * 4) K a x A m c xs) := by
  rcases h with h | ⟨ad, len, cap, h, hl, hm, he⟩
  · simp only [List.cons.injEq, Value.slice.injEq, and_true] at h
    obtain ⟨rfl, rfl, rfl⟩ := h
    exact ⟨Nat.le_refl _, by simp [maxLen], Or.inl rfl⟩
  · simp only [List.cons.injEq, Value.slice.injEq, and_true] at h
    obtain ⟨rfl, rfl, rfl⟩ := h
    refine ⟨hl, hm, ?_⟩
    rcases Nat.eq_zero_or_pos n with h0 | h0
    · exact Or.inl h0
    · right
      have all : ∀ i, i < n → ∃ K a x A m c, (∀ (j : Nat) (v : Value), [Value.int .i64 K, .int .u32 a, .int .u32 x, .slice A m c][j]? = some v → w.cell? (ad.add (i * 4 + j)) = some v) ∧ (0 ≤ a ∧ a < 4294967296) ∧ (0 ≤ x ∧ x < 4294967296) ∧ ∃ xs, Ws w A m c xs := by
        intro i hi
        obtain ⟨es, h1, h2⟩ := he i hi
        obtain ⟨K, a, x, A, m, c, rfl, ha, hx, hw⟩ := sees_call h2
        obtain ⟨_, h3⟩ := cells_at h1
        exact ⟨K, a, x, A, m, c, fun j v hj => by have := h3 j v hj; rwa [add_add] at this, ha, hx, hw⟩
      obtain ⟨b, off, spot⟩ := ad
      have hspot : spot = none := by
        obtain ⟨K, a, x, A, m, c, h1, _⟩ := all 0 h0
        have := h1 0 _ rfl
        simpa [Addr.add] using World.cell?_spot this
      subst hspot
      have addr : ∀ i j : Nat, (⟨b, off, none⟩ : Addr).add (i * 4 + j) = ⟨b, off + i * 4 + j, none⟩ := by
        intro i j
        rw [Nat.add_assoc]
        generalize i * 4 + j = p
        cases p <;> simp [Addr.add]
      refine ⟨b, off, rfl, ?_, fun i hi => ?_⟩
      · obtain ⟨K, a, x, A, m, c, h1, _⟩ := all 0 h0
        have := World.block_lt_of_cell? w _ (h1 0 _ rfl)
        rwa [addr] at this
      · obtain ⟨K, a, x, A, m, c, h1, ha, hx, xs, hw⟩ := all i hi
        refine ⟨K, a, x, A, m, c, xs, ⟨?_, ?_, ?_, ?_, hw, ha.1, ha.2, hx.1, hx.2⟩⟩
        · have := h1 0 _ rfl; rwa [addr] at this
        · have := h1 1 _ rfl; rwa [addr] at this
        · have := h1 2 _ rfl; rwa [addr] at this
        · have := h1 3 _ rfl; rwa [addr] at this
theorem walk_plays (w : World) (v d : Int) (A : Option Addr) (n c : Nat) (hv : 0 ≤ v ∧ v ≤ 255) (hd : -9223372036854775808 ≤ d ∧ d ≤ 9223372036854775807) (hs : Sees w (.sl callSh) [.slice A n c]) :
    Calls Try.prog 3 #[.int .u8 v, .int .i64 d, .slice A n c] w fun e w' => e = .returned (.bool true) ∧ Below w.heap.size w w' := by
  obtain ⟨h1, h2, h3⟩ := sees_calls hs
  obtain ⟨kk, hk⟩ := Int.eq_ofNat_of_zero_le (show 0 ≤ v % 32 by omega)
  rcases h3 with rfl | ⟨b, off, rfl, hb, hc⟩
  · exact walk_plays_none w v kk hk hv.1 hv.2 (by omega) d hd.1 hd.2 A c
  · rcases Nat.eq_zero_or_pos n with rfl | hn
    · exact walk_plays_none w v kk hk hv.1 hv.2 (by omega) d hd.1 hd.2 _ c
    · exact walk_plays_at w v kk hk hv.1 hv.2 (by omega) d hd.1 hd.2 b off n c hn (by unfold maxLen at h2; omega) hb hc
end Go.Proofs.Ytkefggnocmmeoaa
