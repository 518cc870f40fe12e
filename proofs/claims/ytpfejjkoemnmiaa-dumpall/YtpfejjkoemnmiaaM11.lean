/-
  Joined: Ob5, Ob6.
-/
import Derived.Test.YtpfejjkoemnmiaaOb4
/-
  The contracts of slices.Equal at words, numbers and names.
-/
namespace Go.Proofs.Ytpfejjkoemnmiaa
open Go.RowKit
set_option linter.unusedVariables false
set_option linter.unusedSimpArgs false
set_option maxRecDepth 100000
set_option maxRecDepth 100000
theorem Ob.take_step {xs ys : List Ob.Y} {k : Nat} {p : Ob.Y} (h : xs.take k = ys.take k) (hx : xs[k]? = some p) (hy : ys[k]? = some p) : xs.take (k + 1) = ys.take (k + 1) := by
  rw [List.take_add_one, List.take_add_one, h, hx, hy]
theorem Ob.take_apart {xs ys : List Ob.Y} {k : Nat} {p q : Ob.Y} (hx : xs[k]? = some p) (hy : ys[k]? = some q) (hpq : p ≠ q) : xs ≠ ys := by
  intro e
  rw [e, hy] at hx
  cases hx
  exact hpq rfl
theorem Ob.eq_not {s t : ByteArray} {a d : Int} (h : ¬ (s, a) = (t, d)) : (s.toList == t.toList && a == d) = false := by
  cases q : s.toList == t.toList && a == d with
  | false => rfl
  | true =>
    rw [Bool.and_eq_true, beq_iff_eq, beq_iff_eq] at q
    exact absurd (by rw [Ob.toList_inj q.1, q.2]) h
theorem Ob.part_s (s : ByteArray) (a : Int) (w : World) : (part 9 #[.string s, .int .i64 a] 0).run Try.prog w = .ok (.string s) w := by
  have ha := run_isAgg Try.underlying9 w
  simp [part, Sem.run_bind, run_sizeOf (P := Try.prog) (e := 9) (m := 1) (by kernel_rfl), ha, TypeDesc.isRow]
theorem Ob.part_a (s : ByteArray) (a : Int) (w : World) : (part 3 #[.string s, .int .i64 a] 1).run Try.prog w = .ok (.int .i64 a) w := by
  have ha := run_isAgg Try.underlying3 w
  simp [part, Sem.run_bind, run_sizeOf (P := Try.prog) (e := 3) (m := 1) (by kernel_rfl), ha, TypeDesc.isRow]
theorem Ob.eqIn (d : Nat) (s t : ByteArray) (a b : Int) (w : World) : (Op.equalIn (d + 2) 54 (.agg #[.string s, .int .i64 a]) (.agg #[.string t, .int .i64 b])).run Try.prog w = .ok (s.toList == t.toList && a == b) w := by
  rw [run_equalIn_struct w (d + 1) 54 _ _ Try.underlying54 (by kernel_rfl)]
  simp only [Program.fieldsOf, Try.underlying54]
  simp only [Op.eqFields]
  rw [if_pos (by decide), if_pos (by decide)]
  simp only [Sem.run_bind, Ob.part_s, Ob.part_a, run_equalIn_string w d 9 s t Try.underlying9, run_equalIn_int w d 3 .i64 .i64 a b Try.underlying3, Result.andThen_ok]
  cases s.toList == t.toList <;> cases hab : a == b <;> simp [Sem.run_pure, Sem.run_bind, Ob.part_a, run_equalIn_int w d 3 .i64 .i64 a b Try.underlying3, Result.andThen_ok, hab]
theorem Ob.eq_run (s t : ByteArray) (a b : Int) (w : World) : (Op.equalIn 10000 54 (.agg #[.string s, .int .i64 a]) (.agg #[.string t, .int .i64 b])).run Try.prog w = .ok (s.toList == t.toList && a == b) w := Ob.eqIn 9998 s t a b w
set_option maxRecDepth 100000 in
theorem Ob.eq_u32_loop {w : World} {b off b' off' n c c' : Nat} {xs ys : List Int} (h : Rg .u32 w (some ⟨b, off, none⟩) n c xs) (h' : Rg .u32 w (some ⟨b', off', none⟩) n c' ys) (hn : 0 < n) :
    Calls Try.prog 41 #[.slice (some ⟨b, off, none⟩) n c, .slice (some ⟨b', off', none⟩) n c'] w fun e w' => e = .returned (.bool (decide (xs = ys))) ∧ Kept w w' := by
  have hm := h.max
  have hle := h.le
  unfold maxLen at hm
  have hn1 : (n : Int) ≤ 9223372036854775807 := by omega
  have hb := h.lt hn
  have hb' := h'.lt hn
  have hl := h.len
  have hl' := h'.len
  have H := Lib.hid h
  have H' := Lib.hid h'
  clear h h' hm
  go_enter Try.func41, Try.ntmps41
  go_wp2
  go_loopw [5, 13] (fun _ i wr => ∃ k : Nat, k ≤ n ∧ i = .int .i64 k ∧ xs.take k = ys.take k ∧ Kept w wr) (fun _ i _ => n - (intOf i).toNat)
  case atStart => exact ⟨0, Nat.zero_le _, rfl, rfl, Kept.refl w⟩
  case round =>
    obtain ⟨k, hk, rfl, ht, hK⟩ := hrel
    by_cases c1 : k < n
    · obtain ⟨p, hp⟩ : ∃ p, xs[k]? = some p := ⟨_, List.getElem?_eq_getElem (by omega)⟩
      obtain ⟨q, hq⟩ : ∃ q, ys[k]? = some q := ⟨_, List.getElem?_eq_getElem (by omega)⟩
      have g1 := (hK.cell (p := ⟨b, off + k, none⟩) hb).trans (H.out.cellAt k p hp)
      have g2 := (hK.cell (p := ⟨b', off' + k, none⟩) hb').trans (H'.out.cellAt k q hq)
      have hkn : (k : Int) < n := by omega
      by_cases c2 : p = q
      · subst c2
        have R := Lib.hid (Ch.take_step ht hp hq)
        have c3 : (p != p) = false := by simp
        replace hK := Lib.hid hK
        clear ht hp hq
        go_wp2
        go_quiet (fail)
        go_wp2
        go_roundw
        case rel => exact ⟨k + 1, by omega, by go_num, R.out, hK.out.drewN nq⟩
        case measure => simp [intOf]; omega
      · have R := Lib.hid (Ch.take_apart hp hq c2)
        have c3 : (p != q) = true := by simpa using c2
        have c4 : (p == q) = false := by simpa using c2
        replace hK := Lib.hid hK
        clear ht hp hq
        go_wp2
        go_quiet (fail)
        go_wp2
        go_ret
        exact ⟨retB (decide_eq_false R.out).symm, hK.out.drewN _⟩
    · rw [List.take_of_length_le (by omega), List.take_of_length_le (by omega)] at ht
      have R := Lib.hid ht
      have hkn : ¬ (k : Int) < n := by omega
      replace hK := Lib.hid hK
      clear ht c1
      go_wp2
      go_ret
      exact ⟨retB (decide_eq_true R.out).symm, hK.out⟩
theorem Ob.eq_u32_none {w : World} (A A' : Option Addr) (c c' : Nat) :
    Calls Try.prog 41 #[.slice A 0 c, .slice A' 0 c'] w fun e w' => e = .returned (.bool true) ∧ Kept w w' := by
  go_enter Try.func41, Try.ntmps41
  go_wp2
  go_loopw [5, 13] (fun _ i wr => i = .int .i64 0 ∧ Kept w wr) (fun _ _ _ => 0)
  case atStart => exact ⟨rfl, Kept.refl w⟩
  case round =>
    obtain ⟨rfl, hK⟩ := hrel
    replace hK := Lib.hid hK
    go_wp2
    go_ret
    exact ⟨rfl, hK.out⟩
theorem Ob.eq_u32_apart {w : World} (A A' : Option Addr) (n n' c c' : Nat) (hn : ¬ (n : Int) = n') :
    Calls Try.prog 41 #[.slice A n c, .slice A' n' c'] w fun e w' => e = .returned (.bool false) ∧ Kept w w' := by
  have h1 : ((n : Int) != n') = true := by simpa using hn
  have h2 : ((n : Int) == n') = false := by simpa using hn
  go_enter Try.func41, Try.ntmps41
  go_wp2
  go_ret
  exact ⟨rfl, Kept.refl w⟩
theorem Ob.eq_u32_any {w : World} {A A' : Option Addr} {n n' c c' : Nat} {xs ys : List Int} (h : Rg .u32 w A n c xs) (h' : Rg .u32 w A' n' c' ys) :
    Calls Try.prog 41 #[.slice A n c, .slice A' n' c'] w fun e w' => e = .returned (.bool (decide (xs = ys))) ∧ Below w.heap.size w w' := by
  by_cases c1 : n = n'
  · subst c1
    rcases Nat.eq_zero_or_pos n with rfl | hn
    · have e1 : xs = [] := List.eq_nil_of_length_eq_zero h.len
      have e2 : ys = [] := List.eq_nil_of_length_eq_zero h'.len
      subst e1; subst e2
      exact (Ob.eq_u32_none A A' c c').mono fun e w' h => ⟨h.1, h.2.below⟩
    · obtain ⟨b, off, rfl⟩ := h.place hn
      obtain ⟨b', off', rfl⟩ := h'.place hn
      exact (Ob.eq_u32_loop h h' hn).mono fun e w' h => ⟨h.1, h.2.below⟩
  · rw [decide_eq_false (fun e : xs = ys => c1 (by rw [← h.len, ← h'.len, e]))]
    exact (Ob.eq_u32_apart A A' n n' c c' (by omega)).mono fun e w' h => ⟨h.1, h.2.below⟩
set_option maxRecDepth 100000 in
theorem Ob.eq_i64_loop {w : World} {b off b' off' n c c' : Nat} {xs ys : List Int} (h : Rg .i64 w (some ⟨b, off, none⟩) n c xs) (h' : Rg .i64 w (some ⟨b', off', none⟩) n c' ys) (hn : 0 < n) :
    Calls Try.prog 42 #[.slice (some ⟨b, off, none⟩) n c, .slice (some ⟨b', off', none⟩) n c'] w fun e w' => e = .returned (.bool (decide (xs = ys))) ∧ Kept w w' := by
  have hm := h.max
  have hle := h.le
  unfold maxLen at hm
  have hn1 : (n : Int) ≤ 9223372036854775807 := by omega
  have hb := h.lt hn
  have hb' := h'.lt hn
  have hl := h.len
  have hl' := h'.len
  have H := Lib.hid h
  have H' := Lib.hid h'
  clear h h' hm
  go_enter Try.func42, Try.ntmps42
  go_wp2
  go_loopw [5, 13] (fun _ i wr => ∃ k : Nat, k ≤ n ∧ i = .int .i64 k ∧ xs.take k = ys.take k ∧ Kept w wr) (fun _ i _ => n - (intOf i).toNat)
  case atStart => exact ⟨0, Nat.zero_le _, rfl, rfl, Kept.refl w⟩
  case round =>
    obtain ⟨k, hk, rfl, ht, hK⟩ := hrel
    by_cases c1 : k < n
    · obtain ⟨p, hp⟩ : ∃ p, xs[k]? = some p := ⟨_, List.getElem?_eq_getElem (by omega)⟩
      obtain ⟨q, hq⟩ : ∃ q, ys[k]? = some q := ⟨_, List.getElem?_eq_getElem (by omega)⟩
      have g1 := (hK.cell (p := ⟨b, off + k, none⟩) hb).trans (H.out.cellAt k p hp)
      have g2 := (hK.cell (p := ⟨b', off' + k, none⟩) hb').trans (H'.out.cellAt k q hq)
      have hkn : (k : Int) < n := by omega
      by_cases c2 : p = q
      · subst c2
        have R := Lib.hid (Ch.take_step ht hp hq)
        have c3 : (p != p) = false := by simp
        replace hK := Lib.hid hK
        clear ht hp hq
        go_wp2
        go_quiet (fail)
        go_wp2
        go_roundw
        case rel => exact ⟨k + 1, by omega, by go_num, R.out, hK.out.drewN nq⟩
        case measure => simp [intOf]; omega
      · have R := Lib.hid (Ch.take_apart hp hq c2)
        have c3 : (p != q) = true := by simpa using c2
        have c4 : (p == q) = false := by simpa using c2
        replace hK := Lib.hid hK
        clear ht hp hq
        go_wp2
        go_quiet (fail)
        go_wp2
        go_ret
        exact ⟨retB (decide_eq_false R.out).symm, hK.out.drewN _⟩
    · rw [List.take_of_length_le (by omega), List.take_of_length_le (by omega)] at ht
      have R := Lib.hid ht
      have hkn : ¬ (k : Int) < n := by omega
      replace hK := Lib.hid hK
      clear ht c1
      go_wp2
      go_ret
      exact ⟨retB (decide_eq_true R.out).symm, hK.out⟩
theorem Ob.eq_i64_none {w : World} (A A' : Option Addr) (c c' : Nat) :
    Calls Try.prog 42 #[.slice A 0 c, .slice A' 0 c'] w fun e w' => e = .returned (.bool true) ∧ Kept w w' := by
  go_enter Try.func42, Try.ntmps42
  go_wp2
  go_loopw [5, 13] (fun _ i wr => i = .int .i64 0 ∧ Kept w wr) (fun _ _ _ => 0)
  case atStart => exact ⟨rfl, Kept.refl w⟩
  case round =>
    obtain ⟨rfl, hK⟩ := hrel
    replace hK := Lib.hid hK
    go_wp2
    go_ret
    exact ⟨rfl, hK.out⟩
theorem Ob.eq_i64_apart {w : World} (A A' : Option Addr) (n n' c c' : Nat) (hn : ¬ (n : Int) = n') :
    Calls Try.prog 42 #[.slice A n c, .slice A' n' c'] w fun e w' => e = .returned (.bool false) ∧ Kept w w' := by
  have h1 : ((n : Int) != n') = true := by simpa using hn
  have h2 : ((n : Int) == n') = false := by simpa using hn
  go_enter Try.func42, Try.ntmps42
  go_wp2
  go_ret
  exact ⟨rfl, Kept.refl w⟩
theorem Ob.eq_i64_any {w : World} {A A' : Option Addr} {n n' c c' : Nat} {xs ys : List Int} (h : Rg .i64 w A n c xs) (h' : Rg .i64 w A' n' c' ys) :
    Calls Try.prog 42 #[.slice A n c, .slice A' n' c'] w fun e w' => e = .returned (.bool (decide (xs = ys))) ∧ Below w.heap.size w w' := by
  by_cases c1 : n = n'
  · subst c1
    rcases Nat.eq_zero_or_pos n with rfl | hn
    · have e1 : xs = [] := List.eq_nil_of_length_eq_zero h.len
      have e2 : ys = [] := List.eq_nil_of_length_eq_zero h'.len
      subst e1; subst e2
      exact (Ob.eq_i64_none A A' c c').mono fun e w' h => ⟨h.1, h.2.below⟩
    · obtain ⟨b, off, rfl⟩ := h.place hn
      obtain ⟨b', off', rfl⟩ := h'.place hn
      exact (Ob.eq_i64_loop h h' hn).mono fun e w' h => ⟨h.1, h.2.below⟩
  · rw [decide_eq_false (fun e : xs = ys => c1 (by rw [← h.len, ← h'.len, e]))]
    exact (Ob.eq_i64_apart A A' n n' c c' (by omega)).mono fun e w' h => ⟨h.1, h.2.below⟩
set_option maxRecDepth 100000 in
theorem Ob.eq_sy_loop {w : World} {b off b' off' n c c' : Nat} {xs ys : List Ob.Y} (h : Sy w (some ⟨b, off, none⟩) n c xs) (h' : Sy w (some ⟨b', off', none⟩) n c' ys) (hn : 0 < n) :
    Calls Try.prog 43 #[.slice (some ⟨b, off, none⟩) n c, .slice (some ⟨b', off', none⟩) n c'] w fun e w' => e = .returned (.bool (decide (xs = ys))) ∧ Kept w w' := by
  have hm := h.max
  have hle := h.le
  unfold maxLen at hm
  have hn1 : (n : Int) ≤ 9223372036854775807 := by omega
  have hl := h.len
  have hl' := h'.len
  have H := Lib.hid h
  have H' := Lib.hid h'
  clear h h' hm
  go_enter Try.func43, Try.ntmps43
  go_wp2
  go_loopw [5, 13] (fun _ i wr => ∃ k : Nat, k ≤ n ∧ i = .int .i64 k ∧ xs.take k = ys.take k ∧ Kept w wr) (fun _ i _ => n - (intOf i).toNat)
  case atStart => exact ⟨0, Nat.zero_le _, rfl, rfl, Kept.refl w⟩
  case round =>
    obtain ⟨k, hk, rfl, ht, hK⟩ := hrel
    by_cases c1 : k < n
    · have hp : xs[k]? = some (Ob.nm xs k, Ob.pl xs k) := Ob.at_get (by omega)
      have hq : ys[k]? = some (Ob.nm ys k, Ob.pl ys k) := Ob.at_get (by omega)
      have g1 := (H.out.below hK.below).name k c1
      have g2 := (H.out.below hK.below).at k c1
      have g3 := (H'.out.below hK.below).name k c1
      have g4 := (H'.out.below hK.below).at k c1
      have hkn : (k : Int) < n := by omega
      generalize Ob.nm xs k = s at *
      generalize Ob.pl xs k = a at *
      generalize Ob.nm ys k = t at *
      generalize Ob.pl ys k = d at *
      by_cases c2 : (s, a) = (t, d)
      · cases c2
        have R := Lib.hid (Ob.take_step ht hp hq)
        have c3 := fun W => Ob.eq_run s s a a W
        rw [show (s.toList == s.toList && a == a) = true by simp] at c3
        replace hK := Lib.hid hK
        clear ht hp hq
        go_wp2
        go_quiet (fail)
        go_wp2
        go_roundw
        case rel => exact ⟨k + 1, by omega, by go_num, R.out, hK.out.drewN nq⟩
        case measure => simp [intOf]; omega
      · have R := Lib.hid (Ob.take_apart hp hq c2)
        have c3 := fun W => Ob.eq_run s t a d W
        rw [Ob.eq_not c2] at c3
        replace hK := Lib.hid hK
        clear ht hp hq
        go_wp2
        go_quiet (fail)
        go_wp2
        go_ret
        exact ⟨retB (decide_eq_false R.out).symm, hK.out.drewN _⟩
    · rw [List.take_of_length_le (by omega), List.take_of_length_le (by omega)] at ht
      have R := Lib.hid ht
      have hkn : ¬ (k : Int) < n := by omega
      replace hK := Lib.hid hK
      clear ht c1
      go_wp2
      go_ret
      exact ⟨retB (decide_eq_true R.out).symm, hK.out⟩
theorem Ob.eq_sy_none {w : World} (A A' : Option Addr) (c c' : Nat) :
    Calls Try.prog 43 #[.slice A 0 c, .slice A' 0 c'] w fun e w' => e = .returned (.bool true) ∧ Kept w w' := by
  go_enter Try.func43, Try.ntmps43
  go_wp2
  go_loopw [5, 13] (fun _ i wr => i = .int .i64 0 ∧ Kept w wr) (fun _ _ _ => 0)
  case atStart => exact ⟨rfl, Kept.refl w⟩
  case round =>
    obtain ⟨rfl, hK⟩ := hrel
    replace hK := Lib.hid hK
    go_wp2
    go_ret
    exact ⟨rfl, hK.out⟩
theorem Ob.eq_sy_apart {w : World} (A A' : Option Addr) (n n' c c' : Nat) (hn : ¬ (n : Int) = n') :
    Calls Try.prog 43 #[.slice A n c, .slice A' n' c'] w fun e w' => e = .returned (.bool false) ∧ Kept w w' := by
  have h1 : ((n : Int) != n') = true := by simpa using hn
  have h2 : ((n : Int) == n') = false := by simpa using hn
  go_enter Try.func43, Try.ntmps43
  go_wp2
  go_ret
  exact ⟨rfl, Kept.refl w⟩
theorem Ob.eq_sy_any {w : World} {A A' : Option Addr} {n n' c c' : Nat} {xs ys : List Ob.Y} (h : Sy w A n c xs) (h' : Sy w A' n' c' ys) :
    Calls Try.prog 43 #[.slice A n c, .slice A' n' c'] w fun e w' => e = .returned (.bool (decide (xs = ys))) ∧ Below w.heap.size w w' := by
  by_cases c1 : n = n'
  · subst c1
    rcases Nat.eq_zero_or_pos n with rfl | hn
    · have e1 : xs = [] := List.eq_nil_of_length_eq_zero h.len
      have e2 : ys = [] := List.eq_nil_of_length_eq_zero h'.len
      subst e1; subst e2
      exact (Ob.eq_sy_none A A' c c').mono fun e w' h => ⟨h.1, h.2.below⟩
    · obtain ⟨b, off, rfl⟩ := h.place hn
      obtain ⟨b', off', rfl⟩ := h'.place hn
      exact (Ob.eq_sy_loop h h' hn).mono fun e w' h => ⟨h.1, h.2.below⟩
  · rw [decide_eq_false (fun e : xs = ys => c1 (by rw [← h.len, ← h'.len, e]))]
    exact (Ob.eq_sy_apart A A' n n' c c' (by omega)).mono fun e w' h => ⟨h.1, h.2.below⟩
end Go.Proofs.Ytpfejjkoemnmiaa
/-
  The contracts of object.Same and of the document's Same.
-/
namespace Go.Proofs.Ytpfejjkoemnmiaa
open Go.RowKit
set_option linter.unusedVariables false
set_option linter.unusedSimpArgs false
set_option maxRecDepth 100000
set_option maxRecDepth 100000 in
set_option maxHeartbeats 2000000 in
theorem Ob.same_any {w : World} {A B C A' B' C' : Option Addr} {n c m d k e n' c' m' d' k' e' : Nat} {ws ss ws' ss' : List Int} {ys ys' : List Ob.Y} (hW : Wo w A n c ws) (hS : In w B m d ss) (hY : Sy w C k e ys) (hW' : Wo w A' n' c' ws') (hS' : In w B' m' d' ss') (hY' : Sy w C' k' e' ys') :
    Calls Try.prog 23 #[.agg #[.slice A n c, .slice B m d, .slice C k e], .agg #[.slice A' n' c', .slice B' m' d', .slice C' k' e']] w fun r w' => r = .returned (.bool (Ob.same ws ss ys ws' ss' ys')) ∧ Below w.heap.size w w' := by
  have hO := (Has.new #[.slice A n c, .slice B m d, .slice C k e] 26 w).alloc (.cells #[.slice A' n' c', .slice B' m' d', .slice C' k' e'] 26)
  have hP := Has.new1 #[.slice A' n' c', .slice B' m' d', .slice C' k' e'] 26 w (.cells #[.slice A n c, .slice B m d, .slice C k e] 26)
  have hB := (((Kept.refl w).alloc #[.slice A n c, .slice B m d, .slice C k e] 26).alloc #[.slice A' n' c', .slice B' m' d', .slice C' k' e'] 26).below
  replace hW := Lib.hid (hW.below hB)
  replace hS := Lib.hid (hS.below hB)
  replace hY := Lib.hid (hY.below hB)
  replace hW' := Lib.hid (hW'.below hB)
  replace hS' := Lib.hid (hS'.below hB)
  replace hY' := Lib.hid (hY'.below hB)
  obtain ⟨q, hq⟩ : ∃ q, q = Ob.same ws ss ys ws' ss' ys' := ⟨_, rfl⟩
  rw [← hq]
  replace hq := Lib.hid hq
  replace hO := Lib.hid hO
  replace hP := Lib.hid hP
  go_enter Try.func23, Try.ntmps23
  go_wp2_with (fail)
  generalize (w.alloc (.cells #[.slice A n c, .slice B m d, .slice C k e] 26)).alloc (.cells #[.slice A' n' c', .slice B' m' d', .slice C' k' e'] 26) = w1 at *
  refine (Ob.eq_u32_any hW.out.rg hW'.out.rg).mono ?_; rintro r w2 ⟨rfl, hE⟩
  replace hB := Lib.hid (hB.trans (hE.mono hB.size))
  replace hS := Lib.hid (hS.out.below hE)
  replace hY := Lib.hid (hY.out.below hE)
  replace hS' := Lib.hid (hS'.out.below hE)
  replace hY' := Lib.hid (hY'.out.below hE)
  replace hO := Lib.hid (hO.out.below hE)
  replace hP := Lib.hid (hP.out.below hE)
  clear hE hW hW'
  by_cases c1 : ws = ws'
  case neg =>
    have R := Lib.hid (hq.out.trans (Ob.same_not (Or.inl c1)))
    rw [decide_eq_false c1]
    clear hq c1
    go_wp2
    go_ret
    exact ⟨Ob.retB R.out.symm, hB.out⟩
  rw [decide_eq_true c1]
  have o1 := hO.out.cell 1 (.slice B m d) rfl
  have p1 := hP.out.cell 1 (.slice B' m' d') rfl
  replace c1 := Lib.hid c1
  go_wp2_with (fail)
  clear o1 p1
  refine (Ob.eq_i64_any hS.out hS'.out).mono ?_; rintro r w3 ⟨rfl, hE⟩
  replace hB := Lib.hid (hB.out.trans (hE.mono hB.out.size))
  replace hY := Lib.hid (hY.out.below hE)
  replace hY' := Lib.hid (hY'.out.below hE)
  replace hO := Lib.hid (hO.out.below hE)
  replace hP := Lib.hid (hP.out.below hE)
  clear hE hS hS'
  by_cases c2 : ss = ss'
  case neg =>
    have R := Lib.hid (hq.out.trans (Ob.same_not (Or.inr (Or.inl c2))))
    rw [decide_eq_false c2]
    clear hq c2
    go_wp2
    go_ret
    exact ⟨Ob.retB R.out.symm, hB.out⟩
  rw [decide_eq_true c2]
  have o2 := hO.out.cell 2 (.slice C k e) rfl
  have p2 := hP.out.cell 2 (.slice C' k' e') rfl
  replace c2 := Lib.hid c2
  go_wp2_with (fail)
  clear o2 p2
  refine (Ob.eq_sy_any hY.out hY'.out).mono ?_; rintro r w4 ⟨rfl, hE⟩
  replace hB := Lib.hid (hB.out.trans (hE.mono hB.out.size))
  clear hE hY hY' hO hP
  have R := Lib.hid (show decide (ys = ys') = q by rw [hq.out]; unfold Ob.same; apply decide_eq_decide.2; exact ⟨fun h => ⟨c1.out, c2.out, h⟩, fun h => h.2.2⟩)
  rw [R.out]
  clear hq c1 c2
  go_wp2
  go_ret
  exact ⟨rfl, hB.out⟩
theorem Ob.all_take {xs ys : List Ob.Y} {j n : Nat} (h : xs.take j = ys.take j) (hx : xs.length = n) (hy : ys.length = n) (hj : ¬ j < n) : xs = ys := by
  rw [List.take_of_length_le (by omega), List.take_of_length_le (by omega)] at h
  exact h
set_option maxRecDepth 100000 in
set_option maxHeartbeats 4000000 in
theorem Ob.rsame_any {w : World} {A B C A' B' C' : Option Addr} {n c m d k e n' c' m' d' k' e' : Nat} {ws ss ws' ss' : List Int} {ys ys' : List Ob.Y} (hW : Wo w A n c ws) (hS : In w B m d ss) (hY : Sy w C k e ys) (hW' : Wo w A' n' c' ws') (hS' : In w B' m' d' ss') (hY' : Sy w C' k' e' ys') :
    Calls Try.prog 15 #[.agg #[.slice A n c, .slice B m d, .slice C k e], .agg #[.slice A' n' c', .slice B' m' d', .slice C' k' e']] w fun r w' => r = .returned (.bool (Ob.same ws ss ys ws' ss' ys')) ∧ Below w.heap.size w w' := by
  have hO := (Has.new #[.slice A n c, .slice B m d, .slice C k e] 26 w).alloc (.cells #[.slice A' n' c', .slice B' m' d', .slice C' k' e'] 26)
  have hP := Has.new1 #[.slice A' n' c', .slice B' m' d', .slice C' k' e'] 26 w (.cells #[.slice A n c, .slice B m d, .slice C k e] 26)
  have hB := (((Kept.refl w).alloc #[.slice A n c, .slice B m d, .slice C k e] 26).alloc #[.slice A' n' c', .slice B' m' d', .slice C' k' e'] 26).below
  replace hW := Lib.hid (hW.below hB)
  replace hS := Lib.hid (hS.below hB)
  replace hY := Lib.hid (hY.below hB)
  replace hW' := Lib.hid (hW'.below hB)
  replace hS' := Lib.hid (hS'.below hB)
  replace hY' := Lib.hid (hY'.below hB)
  obtain ⟨q, hq⟩ : ∃ q, q = Ob.same ws ss ys ws' ss' ys' := ⟨_, rfl⟩
  rw [← hq]
  replace hq := Lib.hid hq
  replace hO := Lib.hid hO
  replace hP := Lib.hid hP
  go_enter Try.func15, Try.ntmps15
  go_wp2_with (fail)
  generalize (w.alloc (.cells #[.slice A n c, .slice B m d, .slice C k e] 26)).alloc (.cells #[.slice A' n' c', .slice B' m' d', .slice C' k' e'] 26) = w1 at *
  refine (Ch.same5_any hW.out.rg hW'.out.rg).mono ?_; rintro r w2 ⟨rfl, hE⟩
  replace hB := Lib.hid (hB.trans (hE.mono hB.size))
  replace hS := Lib.hid (hS.out.below hE)
  replace hY := Lib.hid (hY.out.below hE)
  replace hS' := Lib.hid (hS'.out.below hE)
  replace hY' := Lib.hid (hY'.out.below hE)
  replace hO := Lib.hid (hO.out.below hE)
  replace hP := Lib.hid (hP.out.below hE)
  clear hE hW hW'
  by_cases c1 : ws = ws'
  case neg =>
    have R := Lib.hid (hq.out.trans (Ob.same_not (Or.inl c1)))
    rw [decide_eq_false c1]
    clear hq c1
    go_wp2
    go_ret
    exact ⟨Ob.retB R.out.symm, hB.out⟩
  rw [decide_eq_true c1]
  have o1 := hO.out.cell 1 (.slice B m d) rfl
  have p1 := hP.out.cell 1 (.slice B' m' d') rfl
  replace c1 := Lib.hid c1
  go_wp2_with (fail)
  clear o1 p1
  refine (Ch.same8_any hS.out hS'.out).mono ?_; rintro r w3 ⟨rfl, hE⟩
  replace hB := Lib.hid (hB.out.trans (hE.mono hB.out.size))
  replace hY := Lib.hid (hY.out.below hE)
  replace hY' := Lib.hid (hY'.out.below hE)
  replace hO := Lib.hid (hO.out.below hE)
  replace hP := Lib.hid (hP.out.below hE)
  clear hE hS hS'
  by_cases c2 : ss = ss'
  case neg =>
    have R := Lib.hid (hq.out.trans (Ob.same_not (Or.inr (Or.inl c2))))
    rw [decide_eq_false c2]
    clear hq c2
    go_wp2
    go_ret
    exact ⟨Ob.retB R.out.symm, hB.out⟩
  rw [decide_eq_true c2]
  have o2 := hO.out.cell 2 (.slice C k e) rfl
  have p2 := hP.out.cell 2 (.slice C' k' e') rfl
  have hl := hY.out.len
  have hl' := hY'.out.len
  have hle := hY.out.le
  have hmx := hY.out.max
  unfold maxLen at hmx
  have hk1 : (k : Int) ≤ 9223372036854775807 := by omega
  by_cases c3 : k = k'
  case neg =>
    have R := Lib.hid (hq.out.trans (Ob.same_not (Or.inr (Or.inr (fun e : ys = ys' => c3 (by rw [← hl, ← hl', e]))))))
    have c4 : ((k : Int) != k') = true := by simpa using (show ¬ (k : Int) = k' by omega)
    have c5 : ((k : Int) == k') = false := by simpa using (show ¬ (k : Int) = k' by omega)
    clear hq c1 c2 c3
    go_wp2
    go_ret
    exact ⟨Ob.retB R.out.symm, hB.out⟩
  subst c3
  have c4 : ((k : Int) != k) = false := by simp
  replace c2 := Lib.hid c2
  have hC : k = 0 ∨ ∃ b off, C = some ⟨b, off, none⟩ := (Nat.eq_zero_or_pos k).imp_right hY.out.place
  have hC' : k = 0 ∨ ∃ b off, C' = some ⟨b, off, none⟩ := (Nat.eq_zero_or_pos k).imp_right hY'.out.place
  clear hmx
  go_wp2
  clear o2 p2
  go_loopw [5] (fun i wr => ∃ j : Nat, j ≤ k ∧ i = .int .i64 j ∧ ys.take j = ys'.take j ∧ Below w3.heap.size w3 wr) (fun i _ => k - (intOf i).toNat)
  case atStart => exact ⟨0, Nat.zero_le _, rfl, rfl, Below.refl _ _⟩
  case round =>
    obtain ⟨j, hj, rfl, ht, hE⟩ := hrel
    have o2 := (hO.out.below hE).cell 2 (.slice C k e) rfl
    have p2 := (hP.out.below hE).cell 2 (.slice C' k e') rfl
    by_cases d1 : j < k
    · have d2 : (j : Int) < k := by omega
      rcases hC with h0 | ⟨b, off, rfl⟩
      · omega
      rcases hC' with h0 | ⟨b', off', rfl⟩
      · omega
      have hp : ys[j]? = some (Ob.nm ys j, Ob.pl ys j) := Ob.at_get (by omega)
      have hp' : ys'[j]? = some (Ob.nm ys' j, Ob.pl ys' j) := Ob.at_get (by omega)
      have g1 := (hY.out.below hE).name j d1
      have g2 := (hY.out.below hE).at j d1
      have g3 := (hY'.out.below hE).name j d1
      have g4 := (hY'.out.below hE).at j d1
      replace hE := Lib.hid hE
      generalize Ob.nm ys j = s at *
      generalize Ob.pl ys j = a at *
      generalize Ob.nm ys' j = t at *
      generalize Ob.pl ys' j = f at *
      by_cases d3 : (s, a) = (t, f)
      · cases d3
        have R := Lib.hid (Ob.take_step ht hp hp')
        have c3 := fun W => Ob.eq_run s s a a W
        rw [show (s.toList == s.toList && a == a) = true by simp] at c3
        clear ht hp hp'
        go_wp2
        go_quiet (fail)
        go_wp2
        go_roundw
        case rel => exact ⟨j + 1, by omega, by go_num, R.out, Bel.drewN hE.out nq⟩
        case measure => simp [intOf]; omega
      · have R := Lib.hid (hq.out.trans (Ob.same_not (Or.inr (Or.inr (Ob.take_apart hp hp' d3)))))
        have c3 := fun W => Ob.eq_run s t a f W
        rw [Ob.eq_not d3] at c3
        replace hB := Lib.hid (hB.out.trans (hE.out.mono hB.out.size))
        clear ht hp hp' hq
        go_wp2
        go_quiet (fail)
        go_wp2
        go_ret
        exact ⟨Ob.retB R.out.symm, Bel.drewN hB.out _⟩
    · have d2 : ¬ (j : Int) < k := by omega
      have R := Lib.hid (show q = true from hq.out.trans (decide_eq_true ⟨c1.out, c2.out, Ob.all_take ht hl hl' d1⟩))
      replace hB := Lib.hid (hB.out.trans (hE.mono hB.out.size))
      clear ht hq
      go_wp2
      go_ret
      exact ⟨Ob.retB R.out.symm, hB.out⟩
end Go.Proofs.Ytpfejjkoemnmiaa
