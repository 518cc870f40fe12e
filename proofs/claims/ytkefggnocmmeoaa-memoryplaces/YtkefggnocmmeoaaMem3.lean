/-
  The contracts of package memory: Place, Words.
-/
import Derived.Test.YtkefggnocmmeoaaMem2
namespace Go.Proofs.Ytkefggnocmmeoaa
open Go.RowKit
set_option linter.unusedVariables false
set_option linter.unusedSimpArgs false
/-- the words behind Place -/
def M.placed (ws : List Int) (k : Nat) (xs : List Int) : List Int := ws.take k ++ xs ++ ws.drop (k + xs.length)
theorem M.placed_in (ws ys : List Int) (k j : Nat) (hk : k + ys.length ≤ ws.length) (h1 : k ≤ j) (h2 : j < k + ys.length) : (M.placed ws k ys)[j]? = ys[j - k]? := by
  unfold M.placed
  rw [List.getElem?_append_left (by simp; omega), List.getElem?_append_right (by simp; omega), show j - (List.take k ws).length = j - k by simp; omega]
theorem M.placed_out (ws ys : List Int) (k j : Nat) (hk : k + ys.length ≤ ws.length) (h : ¬ (k ≤ j ∧ j < k + ys.length)) : (M.placed ws k ys)[j]? = ws[j]? := by
  unfold M.placed
  by_cases c1 : j < k
  · rw [List.append_assoc, List.getElem?_append_left (by simp; omega), List.getElem?_take, if_pos c1]
  · rw [List.getElem?_append_right (by simp; omega), List.getElem?_drop, show k + ys.length + (j - (List.take k ws ++ ys).length) = j by simp; omega]
theorem M.placed_len (ws ys : List Int) (k : Nat) (hk : k + ys.length ≤ ws.length) : (M.placed ws k ys).length = ws.length := by unfold M.placed; simp; omega
theorem M.place_no {B : Nat} {ws : List Int} {w : World} (h : Mem B ws w) (k : Int) (A : Option Addr) (n c : Nat) (hn : n ≤ maxLen) (k0 : -9223372036854775808 ≤ k) (k1 : k ≤ 9223372036854775807) (hf : k < 0 ∨ (ws.length : Int) < k + n) :
    Calls Try.prog 19 #[.pointer (some ⟨B, 0, none⟩), .int .i64 k, .slice A n c] w fun e w' => e = .returned (.int .i64 11) ∧ w = w' := by
  have hc := h.count
  have hl := h.len
  unfold maxLen at hn
  have hn1 : (n : Int) ≤ 9223372036854775807 := by omega
  clear h
  rcases Int.lt_or_le k 0 with h | h
  · go_enter Try.func19, Try.ntmps19
    go_wp2
    go_ret
    exact ⟨rfl, rfl⟩
  · have h1 : (ws.length : Int) - k < n := by omega
    have h2 : ¬ k < 0 := by omega
    have h3 : decide (k < 0) = false := decide_eq_false h2
    clear hf
    go_enter Try.func19, Try.ntmps19
    go_wp2
    go_ret
    exact ⟨rfl, rfl⟩
theorem M.place_yes {B : Nat} {ws : List Int} {w : World} (h : Mem B ws w) (k : Nat) (A : Option Addr) (n c : Nat) (xs : List Int) (hx : Ws w A n c xs) (hf : k + n ≤ ws.length) :
    Calls Try.prog 19 #[.pointer (some ⟨B, 0, none⟩), .int .i64 k, .slice A n c] w fun e w' => e = .returned (.int .i64 0) ∧ Mem B (M.placed ws k xs) w' ∧ But B w w' := by
  have hc := h.count
  have hl := h.len
  have h2 : ¬ (k : Int) < 0 := by omega
  have h3 : decide ((k : Int) < 0) = false := decide_eq_false h2
  have h4 : ¬ (ws.length : Int) - k < n := by omega
  have h5 : (n : Int) ≤ (ws.length : Int) - k := by omega
  obtain ⟨cs, hh, hs, hh3, hh4⟩ := h.has
  have hxl := hx.len
  have R := Lib.hid (h.drew.place k xs (by omega) hx.rng cs hh hs hh3 hh4)
  have hX := Lib.hid hx
  have hH := Lib.hid hh
  have hl0 : (ws.length : Int) ≤ 4096 := by omega
  have hk0 : (k : Int) ≤ ws.length := by omega
  generalize hN : ws.length = N at *
  clear h hx hh hh3 hh4
  go_enter Try.func19, Try.ntmps19
  go_wp2
  go_still_tail 10, (by kernel_rfl)
  change wpList _ _ _ _ _ w.drew
  refine copy_has rfl (.tmp 28) (.tmp 29) 32 32 rfl 31 Try.underlying32 (by kernel_rfl) _ _ _ _ _ _ rfl rfl B k cs 52 (show Has B cs 52 w.drew from hH.out) (xs.map (Value.int .u32)) ?_ ?_ ?_ ?_ ?_
  · rw [List.length_map, hxl]
    show n = Nat.min n (N - k)
    exact (Nat.min_eq_left (by omega)).symm
  · intro hp
    rw [List.length_map, hxl] at hp
    refine ⟨?_, ?_⟩
    · rw [if_neg (by omega)]
    · cases A with
      | none => have := hX.out.nil rfl; have := hX.out.le; omega
      | some ad =>
        refine ⟨ad, rfl, fun j v hj => ?_⟩
        rw [List.getElem?_map, Option.map_eq_some_iff] at hj
        obtain ⟨x, hx, rfl⟩ := hj
        exact hX.out.cel ad rfl j x hx
  · rw [List.length_map, hxl, hs]; omega
  · intro v hv
    obtain ⟨x, _, rfl⟩ := List.mem_map.1 hv
    rfl
  · generalize hW : w.drew.setRow _ _ = w2 at *
    have hB : But B w w2 := by rw [← hW]; exact ((But.refl B w).drew).setRow _
    replace hB := Lib.hid hB
    clear hW
    go_wp2
    all_goals (go_ret; exact ⟨rfl, R.out, hB.out⟩)
/-- make of so many, in a block that is known -/
theorem make_row {P : Program} {w : World} {ops : Array Oper} {rest : List Oper} {o : Oper} {a : Act} {Q : Exit → Act → World → Prop} (hgd : o.guard = none) (l c : Operand) (t : TypeId) (ho : o.op = .makeSlice t l c)
    (e : TypeId) {z : Value} {b : Nat} (h1 : P.underlying t = some (.slice e)) (hi : (P.info? e).map (fun i => (i.zero, i.size, i.bytes)) = some (some z, 1, b)) (n : Nat) (hl : a.eval l = .int .i64 n) (hc : a.eval c = .int .i64 n)
    (b2 : b * n ≤ 281474976710656) (b3 : n ≤ maxLen)
    (h : wpList P ops Q rest (a.put o.dst (.slice (some ⟨w.heap.size, 0, none⟩) n n)) (w.alloc (.cells (madeCells z.cells n) e))) : wpList P ops Q (o :: rest) a w := by
  refine wpList_plain hgd fun K hK => ?_
  obtain ⟨i, hi, hz, hs, hb⟩ := info_parts hi
  have b4 : (i.bytes : Int) * (n : Int) ≤ 281474976710656 := by rw [hb, ← Int.natCast_mul]; exact Int.ofNat_le.2 b2
  have hrun := run_make (P := P) w t e i z h1 hi hz .i64 .i64 n n (by omega) (Int.le_refl _) b4 (by unfold maxLen at b3; omega)
  rw [Int.toNat_natCast, hs, Nat.mul_one] at hrun
  unfold Oper.wp
  simp [execOp, ho, hl, hc, hrun, Result.andThen]
  exact hK _ _ h
theorem M.info32 : (Try.prog.info? 31).map (fun i => (i.zero, i.size, i.bytes)) = some (some (.int .u32 0), 1, 4) := by kernel_rfl
theorem M.words_has {B : Nat} {ws : List Int} {w : World} (h : Mem B ws w) :
    Calls Try.prog 23 #[.pointer (some ⟨B, 0, none⟩)] w fun e w' => ∃ g, e = .returned (.slice (some ⟨g, 0, none⟩) ws.length ws.length) ∧ w.heap.size ≤ g ∧ Has g (ws.map (Value.int .u32)).toArray 31 w' ∧ Kept w w' := by
  have hc := h.count
  have hl := h.len
  have H := Lib.hid h
  have hl0 : (ws.length : Int) ≤ 4096 := by omega
  generalize hN : ws.length = N at *
  clear h
  go_enter Try.func23, Try.ntmps23
  go_upto_region 2 with (with_reducible refine make_row rfl (.tmp 7) (.tmp 7) 32 rfl 31 Try.underlying32 M.info32 N rfl rfl (by omega) (by unfold maxLen; omega) ?_)
  have hG := Lib.hid (Has.new (madeCells #[Value.int .u32 0] N) 31 w)
  have hK := (Kept.refl w).alloc (madeCells #[Value.int .u32 0] N) 31
  have hM := Lib.hid (H.out.kept hK)
  have hB : B < w.heap.size := H.out.lt
  replace hK := Lib.hid hK
  have hc1 := hM.out.count
  rw [hN] at hc1
  clear hc H
  generalize w.alloc (.cells (madeCells #[Value.int .u32 0] N) 31) = w1 at *
  generalize hg : w.heap.size = g at *
  go_still_tail 9, (by kernel_rfl)
  change wpList _ _ _ _ _ w1.drew
  refine copy_has rfl (.tmp 9) (.tmp 17) 32 32 rfl 31 Try.underlying32 (by kernel_rfl) _ _ _ _ _ _ rfl rfl g 0 (madeCells #[Value.int .u32 0] N) 31 (show Has g _ 31 w1.drew from hG.out) (ws.map (Value.int .u32)) ?_ ?_ ?_ ?_ ?_
  · rw [List.length_map, hN]
    exact (Nat.min_self N).symm
  · intro hp
    refine ⟨rfl, _, rfl, fun j v hj => ?_⟩
    rw [List.getElem?_map, Option.map_eq_some_iff] at hj
    obtain ⟨x, hx, rfl⟩ := hj
    obtain ⟨cs, q1, q2, q3, q4⟩ := hM.out.has
    rw [show (⟨B, 0, none⟩ : Addr).add j = ⟨B, j, none⟩ by cases j <;> simp [Addr.add]]
    exact q1.cell j _ (q4 j x hx)
  · rw [List.length_map, hN, size_madeCells]; omega
  · intro v hv
    obtain ⟨x, _, rfl⟩ := List.mem_map.1 hv
    rfl
  · have e : (List.take 0 (madeCells #[Value.int .u32 0] N).toList ++ ws.map (Value.int .u32) ++ List.drop (0 + (ws.map (Value.int .u32)).length) (madeCells #[Value.int .u32 0] N).toList).toArray = (ws.map (Value.int .u32)).toArray := by
      rw [List.drop_of_length_le (by simp [size_madeCells, hN])]; simp
    rw [e]
    have hR := Lib.hid (Has.row (show Has g _ 31 w1.drew from hG.out) (ws.map (Value.int .u32)).toArray)
    replace hK := Lib.hid (hK.out.drew.thenBut ((But.refl g w1.drew).setRow (ws.map (Value.int .u32)).toArray) (by omega))
    generalize w1.drew.setRow g _ = w2 at *
    have rg := Lib.hid hM.out.rng
    clear hG hM hc1 e
    go_wp2
    go_ret
    exact ⟨g, rfl, Nat.le_of_eq hg, hR.out, hK.out⟩
theorem Has.ws {w : World} {g : Nat} {t : TypeId} {ws : List Int} (h : Has g (ws.map (Value.int .u32)).toArray t w) (hl : ws.length ≤ 9000000000) (hr : ∀ x ∈ ws, 0 ≤ x ∧ x < 4294967296) : Ws w (some ⟨g, 0, none⟩) ws.length ws.length ws := by
  refine ⟨rfl, Nat.le_refl _, by unfold maxLen; omega, by simp, hr, fun ad e j x hx => ?_⟩
  cases e
  rw [show (⟨g, 0, none⟩ : Addr).add j = ⟨g, j, none⟩ by cases j <;> simp [Addr.add]]
  exact h.cell j _ (by rw [List.getElem?_toArray, List.getElem?_map, hx]; rfl)
theorem M.words_any {B : Nat} {ws : List Int} {w : World} (h : Mem B ws w) :
    Calls Try.prog 23 #[.pointer (some ⟨B, 0, none⟩)] w fun e w' => ∃ g, e = .returned (.slice (some ⟨g, 0, none⟩) ws.length ws.length) ∧ w.heap.size ≤ g ∧ Ws w' (some ⟨g, 0, none⟩) ws.length ws.length ws ∧ Kept w w' := by
  refine (M.words_has h).mono fun e w' ⟨g, he, hg, hh, hK⟩ => ⟨g, he, hg, hh.ws (by have := h.len; omega) h.rng, hK⟩
end Go.Proofs.Ytkefggnocmmeoaa
