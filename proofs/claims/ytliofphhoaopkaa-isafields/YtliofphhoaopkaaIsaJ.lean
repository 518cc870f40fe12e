/-
  The law IsaFields, whole.
-/
import Derived.Test.YtliofphhoaopkaaIsaI
namespace Go.Proofs.Ytliofphhoaopkaa
open Go.RowKit
set_option linter.unusedVariables false
set_option linter.unusedSimpArgs false
theorem get_val (r : Int) (hr : U32 r) (i n D M v : Int) (hi : 0 ≤ i) (hi' : i ≤ 32) (hn : 0 ≤ n) (hn' : n ≤ 32) (hD : (2 : Int) ^ i.toNat = D) (hM : (2 : Int) ^ n.toNat = M) (hv : r / D % M = v) :
    Hid (∀ w, Calls Try.prog 19 #[.int .u32 r, .int .i64 i, .int .i64 n] w fun e w' => e = .returned (.int .u32 v) ∧ Kept w w') :=
  Lib.hid (fun w => hv ▸ get_lit r hr i n D M hi hi' hn hn' hD hM w)
theorem I.sx_back (n x : Int) (h : -n ≤ x) (h' : x < n) (hn : 0 < n) : I.sx n (x % (2 * n)) = x := by
  unfold I.sx
  rcases (show 0 ≤ x ∨ x < 0 by omega) with g | g
  · rw [Int.emod_eq_of_lt g (by omega), if_pos h']
  · have e : x % (2 * n) = x + 2 * n := by
      rw [← Int.add_emod_right]
      exact Int.emod_eq_of_lt (by omega) (by omega)
    rw [e, if_neg (by omega)]
    omega
theorem fieldsw_1 (k op a b c i op' a' b' c' i' r : Int) (u u' : Bool) (w : World) (hr : U32 r)
    (CF : ∀ w, Calls Try.prog 18 #[.agg #[.int .i64 k, .int .i64 op, .int .i64 a, .int .i64 b, .int .i64 c, .int .i64 i, .bool u]] w fun e w' => e = .returned (.agg #[.int .i64 1, .int .i64 (op'), .int .i64 (a'), .int .i64 (b'), .int .i64 (c'), .int .i64 (i'), .bool (u')]) ∧ Kept w w')
    (CE : ∀ w, Calls Try.prog 12 #[.agg #[.int .i64 1, .int .i64 (op'), .int .i64 (a'), .int .i64 (b'), .int .i64 (c'), .int .i64 (i'), .bool (u')]] w fun e w' => e = .returned (.tuple #[.int .u32 r, .int .i64 0]) ∧ Kept w w')
    (ha0 : 0 ≤ a') (ha1 : a' ≤ 15) (hb0 : 0 ≤ b') (hb1 : b' ≤ 15) (ho0 : 0 ≤ op') (ho1 : op' ≤ 15) (hc0 : 0 ≤ c') (hc1 : c' ≤ 15) (B : Int) (B0 : 0 ≤ B) (B1 : B ≤ 1) (hw : r = (2 * B) * 268435456 + a' * 16777216 + b' * 1048576 + op' * 65536 + c') :
    Calls Try.prog 8 #[.agg #[.int .i64 k, .int .i64 op, .int .i64 a, .int .i64 b, .int .i64 c, .int .i64 i, .bool u]] w fun e w' => e = .returned (.bool true) ∧ Below w.heap.size w w' := by
  obtain ⟨t0, t1, t2, t3⟩ := I.top (2 * B) (a' * 16777216 + b' * 1048576 + op' * 65536 + c') r (by omega) (by omega) (by omega)
  obtain ⟨d1, d1'⟩ := I.dig24 (2 * B) a' (b' * 1048576 + op' * 65536 + c') r (by omega) (by omega) (by omega) (by omega) (by omega)
  obtain ⟨d2, d2'⟩ := I.dig20 (2 * B) a' b' (op' * 65536 + c') r (by omega) (by omega) (by omega) (by omega) (by omega) (by omega) (by omega)
  obtain ⟨d3, d3'⟩ := I.dig16 (2 * B) a' b' op' c' r (by omega) (by omega) (by omega) (by omega) (by omega) (by omega) (by omega) (by omega) (by omega)
  exact fields_1 k op a b c i op' a' b' c' i' r u u' w hr (Lib.hid CF) (Lib.hid CE) (get_val r hr 30 2 1073741824 4 _ (by omega) (by omega) (by omega) (by omega) rfl rfl (by omega)) (get_val r hr 24 4 16777216 16 _ (by omega) (by omega) (by omega) (by omega) rfl rfl d1) (get_val r hr 20 4 1048576 16 _ (by omega) (by omega) (by omega) (by omega) rfl rfl d2) (get_val r hr 16 4 65536 16 _ (by omega) (by omega) (by omega) (by omega) rfl rfl d3) ha0 ha1 hb0 hb1 ho0 ho1 hc0 hc1 (by rw [I.and_mask r hr 4 15 (by omega) rfl]; omega)
theorem fieldsw_2 (k op a b c i op' a' b' c' i' r : Int) (u u' : Bool) (w : World) (hr : U32 r)
    (CF : ∀ w, Calls Try.prog 18 #[.agg #[.int .i64 k, .int .i64 op, .int .i64 a, .int .i64 b, .int .i64 c, .int .i64 i, .bool u]] w fun e w' => e = .returned (.agg #[.int .i64 2, .int .i64 (op'), .int .i64 (a'), .int .i64 (b'), .int .i64 (c'), .int .i64 (i'), .bool (u')]) ∧ Kept w w')
    (CE : ∀ w, Calls Try.prog 12 #[.agg #[.int .i64 2, .int .i64 (op'), .int .i64 (a'), .int .i64 (b'), .int .i64 (c'), .int .i64 (i'), .bool (u')]] w fun e w' => e = .returned (.tuple #[.int .u32 r, .int .i64 0]) ∧ Kept w w')
    (ha0 : 0 ≤ a') (ha1 : a' ≤ 15) (hb0 : 0 ≤ b') (hb1 : b' ≤ 15) (ho0 : 0 ≤ op') (ho1 : op' ≤ 15) (hc0 : 0 ≤ c') (hc1 : c' ≤ 15) (B S : Int) (B0 : 0 ≤ B) (B1 : B ≤ 1) (S0 : 0 ≤ S) (S1 : S ≤ 1) (hw : r = (4 + 2 * B + S) * 268435456 + a' * 16777216 + b' * 1048576 + op' * 65536 + i' % 65536) :
    Calls Try.prog 8 #[.agg #[.int .i64 k, .int .i64 op, .int .i64 a, .int .i64 b, .int .i64 c, .int .i64 i, .bool u]] w fun e w' => e = .returned (.bool true) ∧ Below w.heap.size w w' := by
  have e := i64_and_16 i'
  obtain ⟨m, hm⟩ : ∃ m, i' % 65536 = m := ⟨_, rfl⟩
  have m0 : 0 ≤ m := by omega
  have m1 : m ≤ 65535 := by omega
  rw [hm] at hw e
  obtain ⟨t0, t1, t2, t3⟩ := I.top (4 + 2 * B + S) (a' * 16777216 + b' * 1048576 + op' * 65536 + m) r (by omega) (by omega) (by omega)
  obtain ⟨d1, d1'⟩ := I.dig24 (4 + 2 * B + S) a' (b' * 1048576 + op' * 65536 + m) r (by omega) (by omega) (by omega) (by omega) (by omega)
  obtain ⟨d2, d2'⟩ := I.dig20 (4 + 2 * B + S) a' b' (op' * 65536 + m) r (by omega) (by omega) (by omega) (by omega) (by omega) (by omega) (by omega)
  obtain ⟨d3, d3'⟩ := I.dig16 (4 + 2 * B + S) a' b' op' m r (by omega) (by omega) (by omega) (by omega) (by omega) (by omega) (by omega) (by omega) (by omega)
  exact fields_2 k op a b c i op' a' b' c' i' r m u u' w hr (Lib.hid CF) (Lib.hid CE) (get_val r hr 30 2 1073741824 4 _ (by omega) (by omega) (by omega) (by omega) rfl rfl (by omega)) (get_val r hr 24 4 16777216 16 _ (by omega) (by omega) (by omega) (by omega) rfl rfl d1) (get_val r hr 20 4 1048576 16 _ (by omega) (by omega) (by omega) (by omega) rfl rfl d2) (get_val r hr 16 4 65536 16 _ (by omega) (by omega) (by omega) (by omega) rfl rfl d3) ha0 ha1 hb0 hb1 ho0 ho1 hc0 hc1 (by rw [I.and_mask r hr 16 65535 (by omega) rfl]; exact d3') e m0 m1
theorem fieldsw_3 (k op a b c i op' a' b' c' i' r : Int) (u u' : Bool) (w : World) (hr : U32 r)
    (CF : ∀ w, Calls Try.prog 18 #[.agg #[.int .i64 k, .int .i64 op, .int .i64 a, .int .i64 b, .int .i64 c, .int .i64 i, .bool u]] w fun e w' => e = .returned (.agg #[.int .i64 3, .int .i64 (op'), .int .i64 (a'), .int .i64 (b'), .int .i64 (c'), .int .i64 (i'), .bool (u')]) ∧ Kept w w')
    (CE : ∀ w, Calls Try.prog 12 #[.agg #[.int .i64 3, .int .i64 (op'), .int .i64 (a'), .int .i64 (b'), .int .i64 (c'), .int .i64 (i'), .bool (u')]] w fun e w' => e = .returned (.tuple #[.int .u32 r, .int .i64 0]) ∧ Kept w w')
    (ha0 : 0 ≤ a') (ha1 : a' ≤ 15) (hb0 : 0 ≤ b') (hb1 : b' ≤ 15) (ho0 : 0 ≤ op') (ho1 : op' ≤ 15) (hc0 : 0 ≤ c') (hc1 : c' ≤ 15) (hw : r = 2 * 268435456 + a' * 16777216) :
    Calls Try.prog 8 #[.agg #[.int .i64 k, .int .i64 op, .int .i64 a, .int .i64 b, .int .i64 c, .int .i64 i, .bool u]] w fun e w' => e = .returned (.bool true) ∧ Below w.heap.size w w' := by
  obtain ⟨d1, d1'⟩ := I.dig24 2 a' 0 r (by omega) (by omega) (by omega) (by omega) (by omega)
  exact fields_3 k op a b c i op' a' b' c' i' r _ _ u u' w hr (Lib.hid CF) (Lib.hid CE) (get_val r hr 30 2 1073741824 4 _ (by omega) (by omega) (by omega) (by omega) rfl rfl (by omega)) (get_val r hr 24 4 16777216 16 _ (by omega) (by omega) (by omega) (by omega) rfl rfl d1) (get_val r hr 20 4 1048576 16 _ (by omega) (by omega) (by omega) (by omega) rfl rfl rfl) (get_val r hr 16 4 65536 16 _ (by omega) (by omega) (by omega) (by omega) rfl rfl rfl) (get_val r hr 29 1 536870912 2 _ (by omega) (by omega) (by omega) (by omega) rfl rfl (by omega)) ha0 ha1 hb0 hb1 ho0 ho1 hc0 hc1 (by omega)
theorem fieldsw_4 (k op a b c i op' a' b' c' i' r : Int) (u u' : Bool) (w : World) (hr : U32 r)
    (CF : ∀ w, Calls Try.prog 18 #[.agg #[.int .i64 k, .int .i64 op, .int .i64 a, .int .i64 b, .int .i64 c, .int .i64 i, .bool u]] w fun e w' => e = .returned (.agg #[.int .i64 4, .int .i64 (op'), .int .i64 (a'), .int .i64 (b'), .int .i64 (c'), .int .i64 (i'), .bool (u')]) ∧ Kept w w')
    (CE : ∀ w, Calls Try.prog 12 #[.agg #[.int .i64 4, .int .i64 (op'), .int .i64 (a'), .int .i64 (b'), .int .i64 (c'), .int .i64 (i'), .bool (u')]] w fun e w' => e = .returned (.tuple #[.int .u32 r, .int .i64 0]) ∧ Kept w w')
    (ha0 : 0 ≤ a') (ha1 : a' ≤ 15) (hb0 : 0 ≤ b') (hb1 : b' ≤ 15) (ho0 : 0 ≤ op') (ho1 : op' ≤ 15) (hc0 : 0 ≤ c') (hc1 : c' ≤ 15) (hw : r = 3 * 268435456 + a' * 16777216) :
    Calls Try.prog 8 #[.agg #[.int .i64 k, .int .i64 op, .int .i64 a, .int .i64 b, .int .i64 c, .int .i64 i, .bool u]] w fun e w' => e = .returned (.bool true) ∧ Below w.heap.size w w' := by
  obtain ⟨d1, d1'⟩ := I.dig24 3 a' 0 r (by omega) (by omega) (by omega) (by omega) (by omega)
  exact fields_4 k op a b c i op' a' b' c' i' r _ _ u u' w hr (Lib.hid CF) (Lib.hid CE) (get_val r hr 30 2 1073741824 4 _ (by omega) (by omega) (by omega) (by omega) rfl rfl (by omega)) (get_val r hr 24 4 16777216 16 _ (by omega) (by omega) (by omega) (by omega) rfl rfl d1) (get_val r hr 20 4 1048576 16 _ (by omega) (by omega) (by omega) (by omega) rfl rfl rfl) (get_val r hr 16 4 65536 16 _ (by omega) (by omega) (by omega) (by omega) rfl rfl rfl) (get_val r hr 29 1 536870912 2 _ (by omega) (by omega) (by omega) (by omega) rfl rfl (by omega)) ha0 ha1 hb0 hb1 ho0 ho1 hc0 hc1 (by omega)
theorem fieldsw_5 (k op a b c i op' a' b' c' i' r : Int) (u u' : Bool) (w : World) (hr : U32 r)
    (CF : ∀ w, Calls Try.prog 18 #[.agg #[.int .i64 k, .int .i64 op, .int .i64 a, .int .i64 b, .int .i64 c, .int .i64 i, .bool u]] w fun e w' => e = .returned (.agg #[.int .i64 5, .int .i64 (op'), .int .i64 (a'), .int .i64 (b'), .int .i64 (c'), .int .i64 (i'), .bool (u')]) ∧ Kept w w')
    (CE : ∀ w, Calls Try.prog 12 #[.agg #[.int .i64 5, .int .i64 (op'), .int .i64 (a'), .int .i64 (b'), .int .i64 (c'), .int .i64 (i'), .bool (u')]] w fun e w' => e = .returned (.tuple #[.int .u32 r, .int .i64 0]) ∧ Kept w w')
    (ha0 : 0 ≤ a') (ha1 : a' ≤ 15) (hb0 : 0 ≤ b') (hb1 : b' ≤ 15) (ho0 : 0 ≤ op') (ho1 : op' ≤ 15) (hc0 : 0 ≤ c') (hc1 : c' ≤ 15) (i0 : -524288 ≤ i') (i1 : i' < 524288) (o3 : op' ≤ 3) (hw : r = (8 + op') * 268435456 + a' * 16777216 + b' * 1048576 + i' % 1048576) :
    Calls Try.prog 8 #[.agg #[.int .i64 k, .int .i64 op, .int .i64 a, .int .i64 b, .int .i64 c, .int .i64 i, .bool u]] w fun e w' => e = .returned (.bool true) ∧ Below w.heap.size w w' := by
  have e := I.sx_back 524288 i' (by omega) (by omega) (by omega)
  obtain ⟨m, hm⟩ : ∃ m, i' % 1048576 = m := ⟨_, rfl⟩
  have m0 : 0 ≤ m := by omega
  have m1 : m < 1048576 := by omega
  simp only [Int.reduceMul] at e
  rw [hm] at hw e
  obtain ⟨t0, t1, t2, t3⟩ := I.top (8 + op') (a' * 16777216 + b' * 1048576 + m) r (by omega) (by omega) (by omega)
  obtain ⟨d1, d1'⟩ := I.dig24 (8 + op') a' (b' * 1048576 + m) r (by omega) (by omega) (by omega) (by omega) (by omega)
  obtain ⟨d2, d2'⟩ := I.dig20 (8 + op') a' b' m r (by omega) (by omega) (by omega) (by omega) (by omega) (by omega) (by omega)
  exact fields_5 k op a b c i op' a' b' c' i' r _ u u' w hr (Lib.hid CF) (Lib.hid CE) (get_val r hr 30 2 1073741824 4 _ (by omega) (by omega) (by omega) (by omega) rfl rfl (by omega)) (get_val r hr 24 4 16777216 16 _ (by omega) (by omega) (by omega) (by omega) rfl rfl d1) (get_val r hr 20 4 1048576 16 _ (by omega) (by omega) (by omega) (by omega) rfl rfl d2) (get_val r hr 16 4 65536 16 _ (by omega) (by omega) (by omega) (by omega) rfl rfl rfl) (Lib.hid (sgn_lit r hr 20 _ (by rw [I.sx20, d2', e]))) ha0 ha1 hb0 hb1 ho0 ho1 hc0 hc1
theorem fieldsw_6 (k op a b c i op' a' b' c' i' r : Int) (u u' : Bool) (w : World) (hr : U32 r)
    (CF : ∀ w, Calls Try.prog 18 #[.agg #[.int .i64 k, .int .i64 op, .int .i64 a, .int .i64 b, .int .i64 c, .int .i64 i, .bool u]] w fun e w' => e = .returned (.agg #[.int .i64 6, .int .i64 (op'), .int .i64 (a'), .int .i64 (b'), .int .i64 (c'), .int .i64 (i'), .bool (u')]) ∧ Kept w w')
    (CE : ∀ w, Calls Try.prog 12 #[.agg #[.int .i64 6, .int .i64 (op'), .int .i64 (a'), .int .i64 (b'), .int .i64 (c'), .int .i64 (i'), .bool (u')]] w fun e w' => e = .returned (.tuple #[.int .u32 r, .int .i64 0]) ∧ Kept w w')
    (ha0 : 0 ≤ a') (ha1 : a' ≤ 15) (hb0 : 0 ≤ b') (hb1 : b' ≤ 15) (ho0 : 0 ≤ op') (ho1 : op' ≤ 15) (hc0 : 0 ≤ c') (hc1 : c' ≤ 15) (B : Int) (B0 : 0 ≤ B) (B1 : B ≤ 1) (hw : r = (12 + B) * 268435456 + op' * 16777216 + c') :
    Calls Try.prog 8 #[.agg #[.int .i64 k, .int .i64 op, .int .i64 a, .int .i64 b, .int .i64 c, .int .i64 i, .bool u]] w fun e w' => e = .returned (.bool true) ∧ Below w.heap.size w w' := by
  obtain ⟨t0, t1, t2, t3⟩ := I.top (12 + B) (op' * 16777216 + c') r (by omega) (by omega) (by omega)
  obtain ⟨d1, d1'⟩ := I.dig24 (12 + B) op' c' r (by omega) (by omega) (by omega) (by omega) (by omega)
  exact fields_6 k op a b c i op' a' b' c' i' r _ _ u u' w hr (Lib.hid CF) (Lib.hid CE) (get_val r hr 30 2 1073741824 4 _ (by omega) (by omega) (by omega) (by omega) rfl rfl (by omega)) (get_val r hr 24 4 16777216 16 _ (by omega) (by omega) (by omega) (by omega) rfl rfl d1) (get_val r hr 20 4 1048576 16 _ (by omega) (by omega) (by omega) (by omega) rfl rfl rfl) (get_val r hr 16 4 65536 16 _ (by omega) (by omega) (by omega) (by omega) rfl rfl rfl) (get_val r hr 29 1 536870912 2 _ (by omega) (by omega) (by omega) (by omega) rfl rfl (by omega)) ha0 ha1 hb0 hb1 ho0 ho1 hc0 hc1 (by rw [I.and_mask r hr 4 15 (by omega) rfl]; omega)
theorem fieldsw_7 (k op a b c i op' a' b' c' i' r : Int) (u u' : Bool) (w : World) (hr : U32 r)
    (CF : ∀ w, Calls Try.prog 18 #[.agg #[.int .i64 k, .int .i64 op, .int .i64 a, .int .i64 b, .int .i64 c, .int .i64 i, .bool u]] w fun e w' => e = .returned (.agg #[.int .i64 7, .int .i64 (op'), .int .i64 (a'), .int .i64 (b'), .int .i64 (c'), .int .i64 (i'), .bool (u')]) ∧ Kept w w')
    (CE : ∀ w, Calls Try.prog 12 #[.agg #[.int .i64 7, .int .i64 (op'), .int .i64 (a'), .int .i64 (b'), .int .i64 (c'), .int .i64 (i'), .bool (u')]] w fun e w' => e = .returned (.tuple #[.int .u32 r, .int .i64 0]) ∧ Kept w w')
    (ha0 : 0 ≤ a') (ha1 : a' ≤ 15) (hb0 : 0 ≤ b') (hb1 : b' ≤ 15) (ho0 : 0 ≤ op') (ho1 : op' ≤ 15) (hc0 : 0 ≤ c') (hc1 : c' ≤ 15) (i0 : -8388608 ≤ i') (i1 : i' < 8388608) (B : Int) (B0 : 0 ≤ B) (B1 : B ≤ 1) (hw : r = (14 + B) * 268435456 + op' * 16777216 + i' % 16777216) :
    Calls Try.prog 8 #[.agg #[.int .i64 k, .int .i64 op, .int .i64 a, .int .i64 b, .int .i64 c, .int .i64 i, .bool u]] w fun e w' => e = .returned (.bool true) ∧ Below w.heap.size w w' := by
  have e := I.sx_back 8388608 i' (by omega) (by omega) (by omega)
  obtain ⟨m, hm⟩ : ∃ m, i' % 16777216 = m := ⟨_, rfl⟩
  have m0 : 0 ≤ m := by omega
  have m1 : m < 16777216 := by omega
  simp only [Int.reduceMul] at e
  rw [hm] at hw e
  obtain ⟨t0, t1, t2, t3⟩ := I.top (14 + B) (op' * 16777216 + m) r (by omega) (by omega) (by omega)
  obtain ⟨d1, d1'⟩ := I.dig24 (14 + B) op' m r (by omega) (by omega) (by omega) (by omega) (by omega)
  exact fields_7 k op a b c i op' a' b' c' i' r _ _ u u' w hr (Lib.hid CF) (Lib.hid CE) (get_val r hr 30 2 1073741824 4 _ (by omega) (by omega) (by omega) (by omega) rfl rfl (by omega)) (get_val r hr 24 4 16777216 16 _ (by omega) (by omega) (by omega) (by omega) rfl rfl d1) (get_val r hr 20 4 1048576 16 _ (by omega) (by omega) (by omega) (by omega) rfl rfl rfl) (get_val r hr 16 4 65536 16 _ (by omega) (by omega) (by omega) (by omega) rfl rfl rfl) (get_val r hr 29 1 536870912 2 _ (by omega) (by omega) (by omega) (by omega) rfl rfl (by omega)) (Lib.hid (sgn_lit r hr 24 _ (by rw [I.sx24, d1', e]))) ha0 ha1 hb0 hb1 ho0 ho1 hc0 hc1
theorem walk_Fields (k op a b c i : Int) (u : Bool) (w : World) :
    Calls Try.prog 8 #[.agg #[.int .i64 k, .int .i64 op, .int .i64 a, .int .i64 b, .int .i64 c, .int .i64 i, .bool u]] w fun e w' => e = .returned (.bool true) ∧ Below w.heap.size w w' := by
  obtain ⟨k', op', a', b', c', i', u', hm, CF⟩ := fit_any k op a b c i u
  have hr : U32 (I.word ⟨k', op', a', b', c', i', u'⟩) := ⟨I.word_lo _ hm, I.word_hi _ hm⟩
  have CE := enc_to k' op' a' b' c' i' _ u' hm rfl
  have hm' := hm
  unfold I.May at hm'
  dsimp only at hm'
  obtain ⟨⟨a0, a1, b0, b1, c0, c1⟩, h⟩ := hm'
  have B0 := I.bit_lo u'
  have B1 := I.bit_hi u'
  rcases h with ⟨rfl, h⟩ | ⟨rfl, h⟩ | ⟨rfl | rfl, h⟩ | ⟨rfl, h⟩ | ⟨rfl, h⟩ | ⟨rfl, h⟩
  · exact fieldsw_1 k op a b c i op' a' b' c' i' _ u u' w hr CF CE a0 a1 b0 b1 (by omega) (by omega) c0 c1 (I.bit u') B0 B1 (by simp [I.word]; omega)
  · exact fieldsw_2 k op a b c i op' a' b' c' i' _ u u' w hr CF CE a0 a1 b0 b1 (by omega) (by omega) c0 c1 (I.bit u') (I.bit (decide (i' < 0))) B0 B1 (I.bit_lo _) (I.bit_hi _) (by simp [I.word]; omega)
  · exact fieldsw_3 k op a b c i op' a' b' c' i' _ u u' w hr CF CE a0 a1 b0 b1 (by omega) (by omega) c0 c1 (by simp [I.word])
  · exact fieldsw_4 k op a b c i op' a' b' c' i' _ u u' w hr CF CE a0 a1 b0 b1 (by omega) (by omega) c0 c1 (by simp [I.word])
  · exact fieldsw_5 k op a b c i op' a' b' c' i' _ u u' w hr CF CE a0 a1 b0 b1 (by omega) (by omega) c0 c1 (by omega) (by omega) (by omega) (by simp [I.word]; omega)
  · exact fieldsw_6 k op a b c i op' a' b' c' i' _ u u' w hr CF CE a0 a1 b0 b1 (by omega) (by omega) c0 c1 (I.bit u') B0 B1 (by simp [I.word]; omega)
  · exact fieldsw_7 k op a b c i op' a' b' c' i' _ u u' w hr CF CE a0 a1 b0 b1 (by omega) (by omega) c0 c1 (by omega) (by omega) (I.bit u') B0 B1 (by simp [I.word]; omega)
end Go.Proofs.Ytliofphhoaopkaa
