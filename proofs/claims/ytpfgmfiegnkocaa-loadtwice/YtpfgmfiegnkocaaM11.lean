/-
  Joined: Mem3, Mem4.
-/
import Derived.LoopTactic
import Derived.Test.YtpfgmfiegnkocaaMem2
/-
  The contracts of package memory: Place, Words.
-/
namespace Go.Proofs.Ytpfgmfiegnkocaa
open Go.RowKit
variable {tyM : TypeId} {tlM : List Value}
set_option linter.unusedVariables false
set_option linter.unusedSimpArgs false
set_option maxRecDepth 100000
set_option maxRecDepth 100000
/-- the words behind Place -/
def M.placed (ws : List Int) (k : Nat) (xs : List Int) : List Int := ws.take k ++ xs ++ ws.drop (k + xs.length)
theorem M.placed_in (ws ys : List Int) (k j : Nat) (hk : k + ys.length ≤ ws.length) (h1 : k ≤ j) (h2 : j < k + ys.length) : (M.placed ws k ys)[j]? = ys[j - k]? := by
  unfold M.placed
  rw [List.getElem?_append_left (by simp; omega), List.getElem?_append_right (by simp; omega), show j - (List.take k ws).length = j - k by simp; omega]
theorem M.placed_out (ws ys : List Int) (k j : Nat) (hk : k + ys.length ≤ ws.length) (h : ¬ (k ≤ j ∧ j < k + ys.length)) : (M.placed ws k ys)[j]? = ws[j]? := by
  unfold M.placed
  by_cases c1 : j < k
  · rw [List.append_assoc, List.getElem?_append_left (by simp; omega), List.getElem?_take, if_pos c1]
  · rw [List.getElem?_append_right (by simp; omega), List.getElem?_drop, show k + ys.length + (j - (List.take k ws ++ ys).length) = j by simp; omega]
theorem M.placed_len (ws ys : List Int) (k : Nat) (hk : k + ys.length ≤ ws.length) : (M.placed ws k ys).length = ws.length := by unfold M.placed; simp; omega
theorem M.place_no {B : Nat} {ws : List Int} {w : World} (h : MemT tyM tlM B ws w) (k : Int) (A : Option Addr) (n c : Nat) (hn : n ≤ maxLen) (k0 : -9223372036854775808 ≤ k) (k1 : k ≤ 9223372036854775807) (hf : k < 0 ∨ (ws.length : Int) < k + n) :
    Calls Try.prog 38 #[.pointer (some ⟨B, 0, none⟩), .int .i64 k, .slice A n c] w fun e w' => e = .returned (.int .i64 11) ∧ w = w' := by
  have hc := h.count
  have hl := h.len
  unfold maxLen at hn
  have hn1 : (n : Int) ≤ 9223372036854775807 := by omega
  clear h
  rcases Int.lt_or_le k 0 with h | h
  · go_enter Try.func38, Try.ntmps38
    go_wp2
    go_ret
    exact ⟨rfl, rfl⟩
  · have h1 : (ws.length : Int) - k < n := by omega
    have h2 : ¬ k < 0 := by omega
    have h3 : decide (k < 0) = false := decide_eq_false h2
    clear hf
    go_enter Try.func38, Try.ntmps38
    go_wp2
    go_ret
    exact ⟨rfl, rfl⟩
theorem M.place_yes {B : Nat} {ws : List Int} {w : World} (h : MemT tyM tlM B ws w) (k : Nat) (A : Option Addr) (n c : Nat) (xs : List Int) (hx : Ws w A n c xs) (hf : k + n ≤ ws.length) :
    Calls Try.prog 38 #[.pointer (some ⟨B, 0, none⟩), .int .i64 k, .slice A n c] w fun e w' => e = .returned (.int .i64 0) ∧ MemT tyM tlM B (M.placed ws k xs) w' ∧ But B w w' := by
  have hc := h.count
  have hl := h.len
  have h2 : ¬ (k : Int) < 0 := by omega
  have h3 : decide ((k : Int) < 0) = false := decide_eq_false h2
  have h4 : ¬ (ws.length : Int) - k < n := by omega
  have h5 : (n : Int) ≤ (ws.length : Int) - k := by omega
  obtain ⟨cs, hh, hs, hh3, hh4, hh5⟩ := h.has
  have hxl := hx.len
  have R := Lib.hid (h.drew.place k xs (by omega) hx.rng cs hh hs hh3 hh4 hh5)
  have hX := Lib.hid hx
  have hH := Lib.hid hh
  have hl0 : (ws.length : Int) ≤ 4096 := by omega
  have hk0 : (k : Int) ≤ ws.length := by omega
  generalize hN : ws.length = N at *
  clear h hx hh hh3 hh4 hh5
  go_enter Try.func38, Try.ntmps38
  go_wp2
  go_still_tail 10, (by kernel_rfl)
  change wpList _ _ _ _ _ w.drew
  refine copy_has rfl (.tmp 28) (.tmp 29) 22 22 rfl 39 Try.underlying22 (by kernel_rfl) _ _ _ _ _ _ rfl rfl B k cs tyM (show Has B cs tyM w.drew from hH.out) (xs.map (Value.int .u32)) ?_ ?_ ?_ ?_ ?_
  · rw [List.length_map, hxl]
    show n = Nat.min n (N - k)
    exact (Nat.min_eq_left (by omega)).symm
  · intro hp
    rw [List.length_map, hxl] at hp
    refine ⟨?_, ?_⟩
    · rw [if_neg (by omega)]
    · cases A with
      | none => have := hX.out.nil rfl; have := hX.out.le; omega
      | some ad =>
        refine ⟨ad, rfl, fun j v hj => ?_⟩
        rw [List.getElem?_map, Option.map_eq_some_iff] at hj
        obtain ⟨x, hx, rfl⟩ := hj
        exact hX.out.cel ad rfl j x hx
  · rw [List.length_map, hxl, hs]; omega
  · intro v hv
    obtain ⟨x, _, rfl⟩ := List.mem_map.1 hv
    rfl
  · generalize hW : w.drew.setRow _ _ = w2 at *
    have hB : But B w w2 := by rw [← hW]; exact ((But.refl B w).drew).setRow _
    replace hB := Lib.hid hB
    clear hW
    go_wp2
    all_goals (go_ret; exact ⟨rfl, R.out, hB.out⟩)
/-- make of so many, in a block that is known -/
theorem make_row {P : Program} {w : World} {ops : Array Oper} {rest : List Oper} {o : Oper} {a : Act} {Q : Exit → Act → World → Prop} (hgd : o.guard = none) (l c : Operand) (t : TypeId) (ho : o.op = .makeSlice t l c)
    (e : TypeId) {z : Value} {b : Nat} (h1 : P.underlying t = some (.slice e)) (hi : (P.info? e).map (fun i => (i.zero, i.size, i.bytes)) = some (some z, 1, b)) (n : Nat) (hl : a.eval l = .int .i64 n) (hc : a.eval c = .int .i64 n)
    (b2 : b * n ≤ 281474976710656) (b3 : n ≤ maxLen)
    (h : wpList P ops Q rest (a.put o.dst (.slice (some ⟨w.heap.size, 0, none⟩) n n)) (w.alloc (.cells (madeCells z.cells n) e))) : wpList P ops Q (o :: rest) a w := by
  refine wpList_plain hgd fun K hK => ?_
  obtain ⟨i, hi, hz, hs, hb⟩ := info_parts hi
  have b4 : (i.bytes : Int) * (n : Int) ≤ 281474976710656 := by rw [hb, ← Int.natCast_mul]; exact Int.ofNat_le.2 b2
  have hrun := run_make (P := P) w t e i z h1 hi hz .i64 .i64 n n (by omega) (Int.le_refl _) b4 (by unfold maxLen at b3; omega)
  rw [Int.toNat_natCast, hs, Nat.mul_one] at hrun
  unfold Oper.wp
  simp [execOp, ho, hl, hc, hrun, Result.andThen]
  exact hK _ _ h
theorem M.info32 : (Try.prog.info? 39).map (fun i => (i.zero, i.size, i.bytes)) = some (some (.int .u32 0), 1, 4) := by kernel_rfl
theorem M.words_has {B : Nat} {ws : List Int} {w : World} (h : MemT tyM tlM B ws w) :
    Calls Try.prog 32 #[.pointer (some ⟨B, 0, none⟩)] w fun e w' => ∃ g, e = .returned (.slice (some ⟨g, 0, none⟩) ws.length ws.length) ∧ w.heap.size ≤ g ∧ Has g (ws.map (Value.int .u32)).toArray 39 w' ∧ Kept w w' := by
  have hc := h.count
  have hl := h.len
  have H := Lib.hid h
  have hl0 : (ws.length : Int) ≤ 4096 := by omega
  generalize hN : ws.length = N at *
  clear h
  go_enter Try.func32, Try.ntmps32
  go_upto_region 2 with (with_reducible refine make_row rfl (.tmp 7) (.tmp 7) 22 rfl 39 Try.underlying22 M.info32 N rfl rfl (by omega) (by unfold maxLen; omega) ?_)
  have hG := Lib.hid (Has.new (madeCells #[Value.int .u32 0] N) 39 w)
  have hK := (Kept.refl w).alloc (madeCells #[Value.int .u32 0] N) 39
  have hM := Lib.hid (H.out.kept hK)
  have hB : B < w.heap.size := H.out.lt
  replace hK := Lib.hid hK
  have hc1 := hM.out.count
  rw [hN] at hc1
  clear hc H
  generalize w.alloc (.cells (madeCells #[Value.int .u32 0] N) 39) = w1 at *
  generalize hg : w.heap.size = g at *
  go_still_tail 9, (by kernel_rfl)
  change wpList _ _ _ _ _ w1.drew
  refine copy_has rfl (.tmp 9) (.tmp 17) 22 22 rfl 39 Try.underlying22 (by kernel_rfl) _ _ _ _ _ _ rfl rfl g 0 (madeCells #[Value.int .u32 0] N) 39 (show Has g _ 39 w1.drew from hG.out) (ws.map (Value.int .u32)) ?_ ?_ ?_ ?_ ?_
  · rw [List.length_map, hN]
    exact (Nat.min_self N).symm
  · intro hp
    refine ⟨rfl, _, rfl, fun j v hj => ?_⟩
    rw [List.getElem?_map, Option.map_eq_some_iff] at hj
    obtain ⟨x, hx, rfl⟩ := hj
    obtain ⟨cs, q1, q2, q3, q4, _⟩ := hM.out.has
    rw [show (⟨B, 0, none⟩ : Addr).add j = ⟨B, j, none⟩ by cases j <;> simp [Addr.add]]
    exact q1.cell j _ (q4 j x hx)
  · rw [List.length_map, hN, size_madeCells]; omega
  · intro v hv
    obtain ⟨x, _, rfl⟩ := List.mem_map.1 hv
    rfl
  · have e : (List.take 0 (madeCells #[Value.int .u32 0] N).toList ++ ws.map (Value.int .u32) ++ List.drop (0 + (ws.map (Value.int .u32)).length) (madeCells #[Value.int .u32 0] N).toList).toArray = (ws.map (Value.int .u32)).toArray := by
      rw [List.drop_of_length_le (by simp [size_madeCells, hN])]; simp
    rw [e]
    have hR := Lib.hid (Has.row (show Has g _ 39 w1.drew from hG.out) (ws.map (Value.int .u32)).toArray)
    replace hK := Lib.hid (hK.out.drew.thenBut ((But.refl g w1.drew).setRow (ws.map (Value.int .u32)).toArray) (by omega))
    generalize w1.drew.setRow g _ = w2 at *
    have rg := Lib.hid hM.out.rng
    clear hG hM hc1 e
    go_wp2
    go_ret
    exact ⟨g, rfl, Nat.le_of_eq hg, hR.out, hK.out⟩
theorem Has.ws {w : World} {g : Nat} {t : TypeId} {ws : List Int} (h : Has g (ws.map (Value.int .u32)).toArray t w) (hl : ws.length ≤ 9000000000) (hr : ∀ x ∈ ws, 0 ≤ x ∧ x < 4294967296) : Ws w (some ⟨g, 0, none⟩) ws.length ws.length ws := by
  refine ⟨rfl, Nat.le_refl _, by unfold maxLen; omega, by simp, hr, fun ad e j x hx => ?_⟩
  cases e
  rw [show (⟨g, 0, none⟩ : Addr).add j = ⟨g, j, none⟩ by cases j <;> simp [Addr.add]]
  exact h.cell j _ (by rw [List.getElem?_toArray, List.getElem?_map, hx]; rfl)
theorem M.words_any {B : Nat} {ws : List Int} {w : World} (h : MemT tyM tlM B ws w) :
    Calls Try.prog 32 #[.pointer (some ⟨B, 0, none⟩)] w fun e w' => ∃ g, e = .returned (.slice (some ⟨g, 0, none⟩) ws.length ws.length) ∧ w.heap.size ≤ g ∧ Ws w' (some ⟨g, 0, none⟩) ws.length ws.length ws ∧ Kept w w' := by
  refine (M.words_has h).mono fun e w' ⟨g, he, hg, hh, hK⟩ => ⟨g, he, hg, hh.ws (by have := h.len; omega) h.rng, hK⟩
end Go.Proofs.Ytpfgmfiegnkocaa
/-
  The contracts of the small functions that the laws of memory call: few, Same.
-/
namespace Go.Proofs.Ytpfgmfiegnkocaa
open Go.RowKit
set_option linter.unusedVariables false
set_option linter.unusedSimpArgs false
set_option maxRecDepth 100000
theorem Ws.addr {w : World} {ad : Addr} {n c : Nat} {xs : List Int} (h : Ws w (some ad) n c xs) (hn : 0 < n) : ∃ b off, ad = ⟨b, off, none⟩ := by
  have hl : 0 < xs.length := by have := h.len; omega
  have hx := h.cel ad rfl 0 _ (List.getElem?_eq_getElem hl)
  obtain ⟨b, off, spot⟩ := ad
  have hspot : spot = none := by simpa [Addr.add] using World.cell?_spot hx
  subst hspot
  exact ⟨b, off, rfl⟩
theorem Ws.cellAt {w : World} {b off n c : Nat} {xs : List Int} (h : Ws w (some ⟨b, off, none⟩) n c xs) (j : Nat) (x : Int) (hx : xs[j]? = some x) : w.cell? ⟨b, off + j, none⟩ = some (.int .u32 x) := by
  have := h.cel _ rfl j x hx
  rwa [show (⟨b, off, none⟩ : Addr).add j = ⟨b, off + j, none⟩ by cases j <;> simp [Addr.add]] at this
theorem take_stepM {xs ys : List Int} {k : Nat} {p : Int} (h : xs.take k = ys.take k) (hx : xs[k]? = some p) (hy : ys[k]? = some p) : xs.take (k + 1) = ys.take (k + 1) := by
  rw [List.take_add_one, List.take_add_one, h, hx, hy]
theorem take_apartM {xs ys : List Int} {k : Nat} {p q : Int} (hx : xs[k]? = some p) (hy : ys[k]? = some q) (hpq : p ≠ q) : xs ≠ ys := by
  intro e
  rw [e, hy] at hx
  cases hx
  exact hpq rfl
set_option maxRecDepth 100000 in
theorem same_loop {w : World} {b off b' off' n c c' : Nat} {xs ys : List Int} (h : Ws w (some ⟨b, off, none⟩) n c xs) (h' : Ws w (some ⟨b', off', none⟩) n c' ys) (hn : 0 < n) :
    Calls Try.prog 13 #[.slice (some ⟨b, off, none⟩) n c, .slice (some ⟨b', off', none⟩) n c'] w fun e w' => e = .returned (.bool (decide (xs = ys))) ∧ Kept w w' := by
  have hm := h.max
  have hle := h.le
  unfold maxLen at hm
  have hn1 : (n : Int) ≤ 9223372036854775807 := by omega
  have hb := h.lt hn
  have hb' := h'.lt hn
  have hl := h.len
  have hl' := h'.len
  have H := Lib.hid h
  have H' := Lib.hid h'
  clear h h' hm
  go_enter Try.func13, Try.ntmps13
  go_wp2
  go_loopw [5] (fun i wr => ∃ k : Nat, k ≤ n ∧ i = .int .i64 k ∧ xs.take k = ys.take k ∧ Kept w wr) (fun i _ => n - (intOf i).toNat)
  case atStart => exact ⟨0, Nat.zero_le _, rfl, rfl, Kept.refl w⟩
  case round =>
    obtain ⟨k, hk, rfl, ht, hK⟩ := hrel
    by_cases c1 : k < n
    · obtain ⟨p, hp⟩ : ∃ p, xs[k]? = some p := ⟨_, List.getElem?_eq_getElem (by omega)⟩
      obtain ⟨q, hq⟩ : ∃ q, ys[k]? = some q := ⟨_, List.getElem?_eq_getElem (by omega)⟩
      have g1 := (hK.cell (p := ⟨b, off + k, none⟩) hb).trans (H.out.cellAt k p hp)
      have g2 := (hK.cell (p := ⟨b', off' + k, none⟩) hb').trans (H'.out.cellAt k q hq)
      have hkn : (k : Int) < n := by omega
      by_cases c2 : p = q
      · subst c2
        have R := Lib.hid (take_stepM ht hp hq)
        have c3 : (p != p) = false := by simp
        replace hK := Lib.hid hK
        clear ht hp hq
        go_wp2
        go_quiet (fail)
        go_wp2
        go_roundw
        case rel => exact ⟨k + 1, by omega, by go_num, R.out, hK.out.drewN nq⟩
        case measure => simp [intOf]; omega
      · have R := Lib.hid (take_apartM hp hq c2)
        have c3 : (p != q) = true := by simpa using c2
        have c4 : (p == q) = false := by simpa using c2
        replace hK := Lib.hid hK
        clear ht hp hq
        go_wp2
        go_quiet (fail)
        go_wp2
        go_ret
        exact ⟨congrArg (fun b => Ending.returned (Value.bool b)) (decide_eq_false R.out).symm, hK.out.drewN _⟩
    · rw [List.take_of_length_le (by omega), List.take_of_length_le (by omega)] at ht
      have R := Lib.hid ht
      have hkn : ¬ (k : Int) < n := by omega
      replace hK := Lib.hid hK
      clear ht c1
      go_wp2
      go_ret
      exact ⟨congrArg (fun b => Ending.returned (Value.bool b)) (decide_eq_true R.out).symm, hK.out⟩
theorem same_none {w : World} (A A' : Option Addr) (c c' : Nat) :
    Calls Try.prog 13 #[.slice A 0 c, .slice A' 0 c'] w fun e w' => e = .returned (.bool true) ∧ Kept w w' := by
  go_enter Try.func13, Try.ntmps13
  go_wp2
  go_loopw [5] (fun i wr => i = .int .i64 0 ∧ Kept w wr) (fun _ _ => 0)
  case atStart => exact ⟨rfl, Kept.refl w⟩
  case round =>
    obtain ⟨rfl, hK⟩ := hrel
    replace hK := Lib.hid hK
    go_wp2
    go_ret
    exact ⟨rfl, hK.out⟩
theorem same_apart {w : World} (A A' : Option Addr) (n n' c c' : Nat) (hn : ¬ (n : Int) = n') :
    Calls Try.prog 13 #[.slice A n c, .slice A' n' c'] w fun e w' => e = .returned (.bool false) ∧ Kept w w' := by
  have h1 : ((n : Int) != n') = true := by simpa using hn
  have h2 : ((n : Int) == n') = false := by simpa using hn
  go_enter Try.func13, Try.ntmps13
  go_wp2
  go_ret
  exact ⟨rfl, Kept.refl w⟩
theorem same_any {w : World} {A A' : Option Addr} {n n' c c' : Nat} {xs ys : List Int} (h : Ws w A n c xs) (h' : Ws w A' n' c' ys) :
    Calls Try.prog 13 #[.slice A n c, .slice A' n' c'] w fun e w' => e = .returned (.bool (decide (xs = ys))) ∧ Kept w w' := by
  by_cases c1 : n = n'
  · subst c1
    rcases Nat.eq_zero_or_pos n with rfl | hn
    · have e1 : xs = [] := List.eq_nil_of_length_eq_zero h.len
      have e2 : ys = [] := List.eq_nil_of_length_eq_zero h'.len
      subst e1; subst e2
      exact same_none A A' c c'
    · cases A with
      | none => have := h.nil rfl; have := h.le; omega
      | some ad =>
        cases A' with
        | none => have := h'.nil rfl; have := h'.le; omega
        | some ad' =>
          obtain ⟨b, off, rfl⟩ := h.addr hn
          obtain ⟨b', off', rfl⟩ := h'.addr hn
          exact same_loop h h' hn
  · rw [decide_eq_false (fun e : xs = ys => c1 (by rw [← h.len, ← h'.len, e]))]
    exact same_apart A A' n n' c c' (by omega)
end Go.Proofs.Ytpfgmfiegnkocaa
