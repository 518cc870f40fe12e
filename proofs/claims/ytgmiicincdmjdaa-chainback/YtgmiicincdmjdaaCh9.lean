/-
  What the laws of package chain stand on: the document's example; few, short over any row.
-/
import Derived.Test.YtgmiicincdmjdaaCh6
import Derived.Test.YtgmiicincdmjdaaCh8
namespace Go.Proofs.Ytgmiicincdmjdaa
open Go.RowKit Go.ChangeShapes Go.WideShapes
set_option linter.unusedVariables false
set_option linter.unusedSimpArgs false
set_option maxRecDepth 100000
theorem sees_in {w : World} {A : Option Addr} {n c : Nat} (h : Sees w (.sl (.int .i64)) [.slice A n c]) : ∃ xs, In w A n c xs := by
  have hn : A = none → c = 0 := by
    rcases h with h | ⟨a, len, cap, h, _⟩
    · simp only [List.cons.injEq, Value.slice.injEq, and_true] at h
      exact fun _ => h.2.2
    · simp only [List.cons.injEq, Value.slice.injEq, and_true] at h
      exact fun e => by rw [h.1] at e; cases e
  obtain ⟨h1, h2, xs, i1, i2, i3, i4⟩ := sees_ints h
  exact ⟨xs, i1, h1, h2, hn, i4⟩
theorem Rg.of {k : IntKind} {w : World} {g : Nat} {t : TypeId} (xs : List Int) (h : Has g (xs.map (Value.int k)).toArray t w) (hm : xs.length ≤ maxLen) : Rg k w (some ⟨g, 0, none⟩) xs.length xs.length xs :=
  ⟨rfl, Nat.le_refl _, hm, by simp, fun ad e j y hy => by
    cases e
    rw [show (⟨g, 0, none⟩ : Addr).add j = ⟨g, j, none⟩ by cases j <;> simp [Addr.add]]
    exact h.cell j _ (by rw [List.getElem?_toArray, List.getElem?_map, hy]; rfl)⟩
theorem On.wo {base n c : Nat} {A : Option Addr} {xs : List Int} {w : World} {e : TypeId} (h : On e .u32 base A n c xs w) (hr : ∀ x ∈ xs, 0 ≤ x ∧ x < 4294967296) : Wo w A n c xs := h.rg.rw hr
theorem On.len {e : TypeId} {k : IntKind} {base n c : Nat} {A : Option Addr} {xs : List Int} {w : World} (h : On e k base A n c xs w) : xs.length = n := h.rg.len
theorem Ch.shown_1 : Ch.pW [8, 7, 4] [0, 2] = [524288, 7, 262145] ∧ Ch.pH [8, 7, 4] [0, 2] = 3 ∧ Ch.pE [8, 7, 4] [0, 2] = 0 := by decide +kernel
set_option maxRecDepth 100000 in
theorem Ch.ex1 : ∀ x ∈ ([8, 7, 4] : List Int), 0 ≤ x ∧ x < 4294967296 := by simp
set_option maxRecDepth 100000 in
theorem Ch.shown_any (w : World) : Calls Try.prog 8 #[] w fun e w' => e = .returned (.bool true) ∧ Below w.heap.size w w' := by
  have hA1 := ((Kept.refl w).alloc #[.int .u32 8, .int .u32 7, .int .u32 4] 37).below
  have hX := (Rg.three (Has.new #[.int .u32 8, .int .u32 7, .int .u32 4] 37 w)).rw (L := 4294967296) Ch.ex1
  go_enter Try.func8, Try.ntmps8
  go_wp2_with (fail)
  have hS := Lib.hid (Rg.two (Has.new1 #[.int .i64 0, .int .i64 2] 3 w (.cells #[.int .u32 8, .int .u32 7, .int .u32 4] 37)))
  generalize w.alloc (.cells #[.int .u32 8, .int .u32 7, .int .u32 4] 37) = w1 at *
  have hA2 := ((Kept.refl w1).alloc #[.int .i64 0, .int .i64 2] 3).below
  replace hX := Lib.hid (hX.below hA2)
  have hB := Lib.hid (Bel.trans hA1 hA2)
  clear hA1 hA2
  generalize w1.alloc (.cells #[.int .i64 0, .int .i64 2] 3) = w2 at *
  refine (Ch.pack_any hX.out hS.out (by simp)).mono ?_; rintro e w3 ⟨A, n, cap, rfl, hO, hE⟩
  rw [Ch.shown_1.2.1, Ch.shown_1.2.2]
  rw [Ch.shown_1.1] at hO
  have hA3 := ((Kept.refl w3).alloc #[.int .u32 524288, .int .u32 7, .int .u32 262145] 37).below
  have hY := Lib.hid (Rg.three (Has.new #[.int .u32 524288, .int .u32 7, .int .u32 262145] 37 w3))
  replace hO := Lib.hid (hO.rg.below hA3)
  replace hB := Lib.hid (Bel.trans (Bel.trans hB.out hE) hA3)
  clear hA3 hE hX hS
  go_wp2_with (fail)
  generalize w3.alloc (.cells #[.int .u32 524288, .int .u32 7, .int .u32 262145] 37) = w4 at *
  refine (Ch.same5_true hO.out hY.out).mono ?_; rintro e w5 ⟨rfl, hE⟩
  replace hB := Lib.hid (Bel.trans hB.out hE)
  clear hE hO hY
  go_wp2
  go_ret
  exact ⟨rfl, hB.out⟩
end Go.Proofs.Ytgmiicincdmjdaa
