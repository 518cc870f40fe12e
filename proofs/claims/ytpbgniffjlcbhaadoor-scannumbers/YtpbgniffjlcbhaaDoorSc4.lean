/-
  What numberOf and Line use of strings and strconv: Clone, the errors of ParseUint, ParseUint, numberOf itself.
-/
import Derived.Test.YtpbgniffjlcbhaaDoorSc3
import Derived.Lib.UnsafeStr
import Derived.Lib.BufferWrite
import Derived.Lib.IfaceEq
import Derived.Laws.MakeOwn
import Derived.Deep.RegionWith
import Derived.Lib.AtoiErrMem
namespace Go.Proofs.YtpbgniffjlcbhaaDoor
open Go.RowKit
set_option linter.unusedVariables false
set_option linter.unusedSimpArgs false
set_option maxRecDepth 100000
theorem Sc.info8 : (Tryd.prog.info? 5).map (fun i => (i.zero, i.size, i.bytes)) = some (some (.int .u8 0), 1, 1) := by kernel_rfl
theorem Sc.cellsOf8 : Tryd.prog.cellsOf 5 = 1 := by kernel_rfl
theorem Sc.str0 {s : ByteArray} (h : s.size = 0) : s = ⟨#[]⟩ := ByteArray.ext (Array.eq_empty_of_size_eq_zero h)
set_option maxHeartbeats 4000000 in
set_option maxRecDepth 100000 in
theorem Sc.lclone_any (s : ByteArray) (w : World) (hlim : s.size ≤ 1000000000) :
    Calls Tryd.prog 38 #[.string s] w fun e w' => e = .returned (.string s) ∧ Below w.heap.size w w' := by
  by_cases h0 : s.size = 0
  · have hs := Sc.str0 h0
    subst hs
    go_enter Tryd.func38, Tryd.ntmps38
    go_wp2
    go_ret
    exact ⟨rfl, Below.refl _ _⟩
  · obtain ⟨i0, hi, hz0, hz1, hz2⟩ := info_parts Sc.info8
    have hinfo : (Tryd.prog.info? 5).map (·.size) = some 1 := by rw [hi]; simp [hz1]
    obtain ⟨M, hM⟩ : ∃ M, M = madeCells (Value.int .u8 0).cells (((s.size : Nat) : Int).toNat * i0.size) := ⟨_, rfl⟩
    have hMs : M.size = s.size := by rw [hM, size_madeCells, hz1]; simp
    have hmk : ∀ W : World, (Instr.makeSlice 37 (.int .i64 (s.size : Int)) (.int .i64 (s.size : Int))).run Tryd.prog W = .ok (.slice (some ⟨W.heap.size, 0, Option.none⟩) s.size s.size) (W.alloc (.cells M 5)) := fun W => by
      have h := run_make (P := Tryd.prog) W 37 5 i0 (.int .u8 0) Tryd.underlying37 hi hz0 .i64 .i64 (s.size : Int) (s.size : Int) (by omega) (by omega) (by rw [hz2]; omega) (by omega)
      rw [← hM] at h
      simpa using h
    clear hM
    have hcp := Lib.run_copy_row_string (P := Tryd.prog) (w.alloc (.cells M 5)) 37 9 3 5 w.heap.size 0 s.size s.size s M 5 Tryd.underlying37 hinfo (heap_alloc_new w _) (Nat.le_refl _) (by omega)
    obtain ⟨Y, hY⟩ : ∃ Y, Y = (M.toList.take 0 ++ Lib.byteCells s.data.toList ++ M.toList.drop (0 + s.size)).toArray := ⟨_, rfl⟩
    rw [← hY] at hcp
    have hYl : Y.toList = Lib.byteCells s.data.toList := by
      rw [hY, List.toList_toArray, List.take_zero, List.nil_append, List.drop_of_length_le (by rw [Array.length_toList]; omega), List.append_nil]
    have hYs : Y.size = s.size := by rw [← Array.length_toList, hYl, Lib.byteCells_length, ← Lib.size_eq]
    have hgY : ((w.alloc (.cells M 5)).setRow w.heap.size Y).heap[w.heap.size]? = some (.cells Y 5 (0, 0)) := setRow_heap _ _ M _ 5 (0, 0) (heap_alloc_new w _)
    have hne : s.data.toList ≠ [] := fun e => h0 (by rw [Lib.size_eq, e]; rfl)
    have hUS := Lib.run_unsafeString_row (P := Tryd.prog) ((w.alloc (.cells M 5)).setRow w.heap.size Y) 62 3 9 5 Tryd.underlying62 Sc.cellsOf8 w.heap.size Y.size (by unfold World.shape?; rw [hgY]) s.data.toList hne (by rw [← Lib.size_eq]; omega) (by rw [← Lib.size_eq]; omega)
      (fun j x hx => Lib.cells_of_row hgY Y.size j _ (by rw [List.take_of_length_le (by rw [Array.length_toList]; exact Nat.le_refl _), hYl]; simp [Lib.byteCells, hx]))
    rw [← Lib.size_eq] at hUS
    clear hY
    go_enter Tryd.func38, Tryd.ntmps38
    go_wp2
    go_ret
    have hb1 : Below w.heap.size w (w.alloc (.cells M 5)) := (Below.refl _ w).alloc (Nat.le_refl _) _
    have hb2 : Below w.heap.size (w.alloc (.cells M 5)) ((w.alloc (.cells M 5)).setRow w.heap.size Y) := ⟨rfl, rfl, rfl, by simp, fun k hk => setRow_other _ _ _ _ (by omega)⟩
    exact ⟨rfl, Lib.below_freeze (hb1.trans hb2) (p := ⟨w.heap.size, 0, Option.none⟩) (Nat.le_refl _) _⟩
set_option maxHeartbeats 2000000 in
set_option maxRecDepth 100000 in
theorem Sc.clone_any (s : ByteArray) (w : World) (hlim : s.size ≤ 1000000000) :
    Calls Tryd.prog 24 #[.string s] w fun e w' => e = .returned (.string s) ∧ Below w.heap.size w w' := by
  have hI := Lib.hid (Sc.lclone_any s w hlim)
  go_enter Tryd.func24, Tryd.ntmps24
  go_wp2_with (fail)
  refine hI.out.mono ?_; rintro e w' ⟨rfl, hE⟩
  replace hE := Lib.hid hE
  go_wp2
  go_ret
  exact ⟨rfl, hE.out⟩
/-- the two errors of strconv lie in their variables -/
def Sc.Errs (W : World) : Prop := ∃ t1 p1 t2 p2, W.cell? ⟨1, 0, Option.none⟩ = some (.iface t1 p1) ∧ W.cell? ⟨2, 0, Option.none⟩ = some (.iface t2 p2)
theorem Sc.Errs.below {w w' : World} (h : Sc.Errs w) (hb : Below w.heap.size w w') : Sc.Errs w' := by
  obtain ⟨t1, p1, t2, p2, h1, h2⟩ := h
  exact ⟨t1, p1, t2, p2, (hb.cell (Lib.lt_of_cell h1)).trans h1, (hb.cell (Lib.lt_of_cell h2)).trans h2⟩
theorem Sc.Errs.drew {w : World} (h : Sc.Errs w) : Sc.Errs w.drew := h
set_option maxHeartbeats 6400000 in
set_option maxRecDepth 100000 in
theorem Sc.synErr_any (fn s : ByteArray) (w : World) (hlim : s.size ≤ 100000000) (hE : Sc.Errs w) :
    Calls Tryd.prog 50 #[.string fn, .string s] w fun e w' => ∃ N, e = .returned (.pointer (some ⟨N, 0, Option.none⟩)) ∧ Below w.heap.size w w' := by
  obtain ⟨t1, p1, t2, p2, hv, _⟩ := hE
  have hG : 1 < w.heap.size := Lib.lt_of_cell hv
  have hvd : w.drew.cell? ⟨1, 0, Option.none⟩ = some _ := hv
  have C := Lib.hid (fun v => Sc.lclone_any s v (by omega))
  go_enter Tryd.func50, Tryd.ntmps50
  go_wp2
  go_region_with (
      refine (C.out _).mono ?_
      rintro e w2 ⟨rfl, hbel⟩
      have hv2 : w2.cell? ⟨1, 0, Option.none⟩ = some _ := (hbel.cell (show (⟨1, 0, Option.none⟩ : Addr).block < w.drew.heap.size from hG)).trans hvd)
  all_goals (
    go_wp2
    go_ret
    have hs2 : w.heap.size ≤ w2.heap.size := hbel.size
    exact ⟨_, rfl, ((Below.drew (Below.refl _ w)).trans hbel).alloc hs2 _⟩)
set_option maxHeartbeats 6400000 in
set_option maxRecDepth 100000 in
theorem Sc.rngErr_any (fn s : ByteArray) (w : World) (hlim : s.size ≤ 100000000) (hE : Sc.Errs w) :
    Calls Tryd.prog 51 #[.string fn, .string s] w fun e w' => ∃ N, e = .returned (.pointer (some ⟨N, 0, Option.none⟩)) ∧ Below w.heap.size w w' := by
  obtain ⟨t1, p1, t2, p2, _, hv⟩ := hE
  have hG : 2 < w.heap.size := Lib.lt_of_cell hv
  have hvd : w.drew.cell? ⟨2, 0, Option.none⟩ = some _ := hv
  have C := Lib.hid (fun v => Sc.lclone_any s v (by omega))
  go_enter Tryd.func51, Tryd.ntmps51
  go_wp2
  go_region_with (
      refine (C.out _).mono ?_
      rintro e w2 ⟨rfl, hbel⟩
      have hv2 : w2.cell? ⟨2, 0, Option.none⟩ = some _ := (hbel.cell (show (⟨2, 0, Option.none⟩ : Addr).block < w.drew.heap.size from hG)).trans hvd)
  all_goals (
    go_wp2
    go_ret
    have hs2 : w.heap.size ≤ w2.heap.size := hbel.size
    exact ⟨_, rfl, ((Below.drew (Below.refl _ w)).trans hbel).alloc hs2 _⟩)
theorem Sc.cmp66 : (Tryd.prog.info? 66).map (·.comparable) = some true := by kernel_rfl
set_option maxHeartbeats 4000000 in
set_option maxRecDepth 100000 in
theorem Sc.toError_any (fn s : ByteArray) (base bits i : Int) (hi : i = 1 ∨ i = 2) (w : World) (hlim : s.size ≤ 100000000) (hE : Sc.Errs w) :
    Calls Tryd.prog 44 #[.string fn, .string s, .int .i64 base, .int .i64 bits, .iface 66 (.int .i64 i)] w fun e w' => ∃ N, e = .returned (.iface 70 (.pointer (some ⟨N, 0, Option.none⟩))) ∧ Below w.heap.size w w' := by
  have h22 : ∀ W, (binOp .eql 49 (.iface 66 (.int .i64 2)) (.iface 66 (.int .i64 2))).run Tryd.prog W = .ok (.bool true) W := fun W => Lib.run_eql_iface_int W 2 2 Tryd.underlying49 Sc.cmp66 Tryd.underlying66
  have h12 : ∀ W, (binOp .eql 49 (.iface 66 (.int .i64 1)) (.iface 66 (.int .i64 2))).run Tryd.prog W = .ok (.bool false) W := fun W => Lib.run_eql_iface_int W 1 2 Tryd.underlying49 Sc.cmp66 Tryd.underlying66
  have h11 : ∀ W, (binOp .eql 49 (.iface 66 (.int .i64 1)) (.iface 66 (.int .i64 1))).run Tryd.prog W = .ok (.bool true) W := fun W => Lib.run_eql_iface_int W 1 1 Tryd.underlying49 Sc.cmp66 Tryd.underlying66
  have C1 := Lib.hid (Sc.synErr_any fn s w hlim hE)
  have C2 := Lib.hid (Sc.rngErr_any fn s w hlim hE)
  clear hE
  rcases hi with rfl | rfl
  · go_enter Tryd.func44, Tryd.ntmps44
    go_wp2_with (fail)
    refine C2.out.mono ?_; rintro e w2 ⟨N, rfl, hb⟩
    replace hb := Lib.hid hb
    go_wp2
    go_ret
    exact ⟨N, rfl, hb.out⟩
  · go_enter Tryd.func44, Tryd.ntmps44
    go_wp2_with (fail)
    refine C1.out.mono ?_; rintro e w2 ⟨N, rfl, hb⟩
    replace hb := Lib.hid hb
    go_wp2
    go_ret
    exact ⟨N, rfl, hb.out⟩
/-- what the public ParseUint tells -/
def Sc.Pp (R : Option Int) (v : Value) : Prop := match R with
  | some n => v = .tuple #[.int .u64 n, .nilIface]
  | Option.none => ∃ x N, v = .tuple #[.int .u64 x, .iface 70 (.pointer (some ⟨N, 0, Option.none⟩))]
theorem Sc.Pp.no {R : Option Int} (h : R = Option.none) (x : Int) (N : Nat) : Sc.Pp R (.tuple #[.int .u64 x, .iface 70 (.pointer (some ⟨N, 0, Option.none⟩))]) := by
  subst h; exact ⟨x, N, rfl⟩
theorem Sc.Pp.yes {R : Option Int} {n : Int} (h : R = some n) : Sc.Pp R (.tuple #[.int .u64 n, .nilIface]) := by
  subst h; exact rfl
/-- the number of a row of digits that may be empty -/
def Sc.num1 (b : Int) (xs : List Int) : Option Int := if xs = [] then Option.none else Sc.num b xs 0
set_option maxHeartbeats 4000000 in
set_option maxRecDepth 100000 in
theorem Sc.iparse1_any (t : ByteArray) (hmax : t.size ≤ 100000000) (b : Int) (hb : b = 10 ∨ b = 16) (w : World) :
    Calls Tryd.prog 43 #[.string t, .int .i64 b, .int .i64 32] w fun e w' => ∃ v, e = .returned v ∧ Sc.Pu 66 (Sc.num1 b (L.bs t)) v ∧ Below w.heap.size w w' := by
  unfold Sc.num1
  by_cases h0 : t.size = 0
  · have hs := Sc.str0 h0
    subst hs
    rw [if_pos (show L.bs ⟨#[]⟩ = [] from rfl)]
    go_enter Tryd.func43, Tryd.ntmps43
    go_wp2
    go_ret2
    exact ⟨_, rfl, Sc.Pu.no rfl _ _ (by omega), Below.refl _ _⟩
  · rw [if_neg (fun e => h0 (by have := congrArg List.length e; rw [L.bs_len] at this; simpa using this))]
    refine (Sc.iparse_any t h0 hmax b hb w).mono ?_
    rintro e w' ⟨v, rfl, h1, rfl⟩
    exact ⟨v, rfl, h1, Lib.bytesWorld_below _ _ _⟩
set_option maxHeartbeats 4000000 in
set_option maxRecDepth 100000 in
theorem Sc.parse_any (t : ByteArray) (hmax : t.size ≤ 100000000) (b : Int) (hb : b = 10 ∨ b = 16) (w : World) (hE : Sc.Errs w) :
    Calls Tryd.prog 37 #[.string t, .int .i64 b, .int .i64 32] w fun e w' => ∃ v, e = .returned v ∧ Sc.Pp (Sc.num1 b (L.bs t)) v ∧ Below w.heap.size w w' := by
  have C := Lib.hid (Sc.iparse1_any t hmax b hb w)
  go_enter Tryd.func37, Tryd.ntmps37
  go_wp2_with (fail)
  refine C.out.mono ?_
  rintro e w1 ⟨v, rfl, hP, hB⟩
  clear C
  have hE1 := hE.below hB
  replace hB := Lib.hid hB
  cases hR : Sc.num1 b (L.bs t) with
  | none =>
    rw [hR] at hP
    obtain ⟨x, i, hi, rfl⟩ := hP
    have D := Lib.hid (Sc.toError_any ⟨#[80, 97, 114, 115, 101, 85, 105, 110, 116]⟩ t b 32 i hi w1 hmax hE1)
    clear hE hE1 hi
    replace hR := Lib.hid hR
    go_wp2_with (fail)
    refine D.out.mono ?_
    rintro e w2 ⟨N, rfl, hB2⟩
    have hB3 := Lib.hid (hB.out.trans (hB2.mono hB.out.size))
    clear hB2 D
    go_wp2
    go_ret2
    exact ⟨_, rfl, Sc.Pp.no hR.out x N, hB3.out⟩
  | some n =>
    rw [hR] at hP
    have hv : v = .tuple #[.int .u64 n, .nilIface] := hP
    subst hv
    clear hE hE1 hP
    replace hR := Lib.hid hR
    go_wp2
    go_ret2
    exact ⟨_, rfl, Sc.Pp.yes hR.out, hB.out⟩
theorem Sc.num_rng (b : Int) (hb : 0 ≤ b) : ∀ (xs : List Int) (n m : Int), 0 ≤ n → n < 4294967296 → Sc.num b xs n = some m → 0 ≤ m ∧ m < 4294967296
  | [], n, m, h0, h1, h => by cases h; exact ⟨h0, h1⟩
  | c :: r, n, m, h0, h1, h => by
    rw [Sc.ncons] at h
    unfold Sc.step at h
    cases h6 : Sc.six c with
    | none => rw [h6] at h; cases h
    | some d =>
      rw [h6] at h
      obtain ⟨d0, d1⟩ := Sc.six_lt h6
      simp only [] at h
      by_cases c1 : d < b
      · rw [if_pos c1] at h
        by_cases c2 : n * b + d < 4294967296
        · rw [if_pos c2] at h
          have := Int.mul_nonneg h0 hb
          exact Sc.num_rng b hb r _ m (by omega) c2 h
        · rw [if_neg c2] at h; cases h
      · rw [if_neg c1] at h; cases h
theorem Sc.num1_rng {b m : Int} {xs : List Int} (hb : 0 ≤ b) (h : Sc.num1 b xs = some m) : 0 ≤ m ∧ m < 4294967296 := by
  unfold Sc.num1 at h
  split at h
  · cases h
  · exact Sc.num_rng b hb xs 0 m (by omega) (by omega) h
theorem Sc.number_rng {m : Int} {xs : List Int} (h : Sc.number xs = some m) : 0 ≤ m ∧ m < 4294967296 := by
  unfold Sc.number at h
  split at h
  · exact Sc.num_rng 16 (by omega) _ 0 m (by omega) (by omega) h
  · exact Sc.num_rng 10 (by omega) _ 0 m (by omega) (by omega) h
theorem Sc.number_cut (xs : List Int) (h : xs ≠ []) : Sc.number xs = if Sc.is0x xs = true then Sc.num1 16 (xs.drop 2) else Sc.num1 10 xs := by
  unfold Sc.number Sc.num1
  rw [if_neg h]
  match xs, h with
  | [a], _ =>
    have e : Sc.is0x [a] = false := by unfold Sc.is0x; simp
    have e2 : Sc.hexed [a] = false := by unfold Sc.hexed; simp
    rw [e, e2]; rfl
  | [a, b], _ =>
    have e2 : Sc.hexed [a, b] = false := by unfold Sc.hexed; simp
    rw [e2, if_neg (by decide)]
    by_cases c : Sc.is0x [a, b] = true
    · rw [if_pos c, if_pos (show List.drop 2 [a, b] = [] from rfl)]
      unfold Sc.is0x at c
      simp at c
      obtain ⟨rfl, rfl⟩ := c
      rfl
    · rw [if_neg c]
  | a :: b :: c :: r, _ =>
    have e2 : Sc.hexed (a :: b :: c :: r) = Sc.is0x (a :: b :: c :: r) := by
      unfold Sc.hexed Sc.is0x
      simp only [List.length_cons, List.take_succ_cons, List.take_zero, List.getD_cons_zero, List.getD_cons_succ]
      rw [decide_eq_true (by omega), Bool.true_and, Bool.eq_iff_iff]
      simp
    rw [e2]
    split
    · rfl
    · rfl
set_option maxHeartbeats 4000000 in
set_option maxRecDepth 100000 in
theorem Sc.numberOf_any (s : ByteArray) (hs : s.size ≤ 100000000) (h0 : s.size ≠ 0) (w : World) (hE : Sc.Errs w) : Calls Tryd.prog 23 #[.string s] w fun e w' => e = .returned (Sc.numV (Sc.number (L.bs s))) ∧ Below w.heap.size w w' := by
  rw [Sc.number_cut _ (fun e => h0 (by have := congrArg List.length e; rw [L.bs_len] at this; simpa using this))]
  have C := Lib.hid (Sc.cut_any s hs w)
  unfold Sc.cutV at C
  obtain ⟨t, b, ht, hb, hv, hR⟩ : ∃ (t : ByteArray) (q : Bool), t.size ≤ 100000000 ∧ True ∧ (if Sc.is0x (L.bs s) = true then Value.tuple #[.string (strOfNums ((L.bs s).drop 2)), .bool true] else .tuple #[.string s, .bool false]) = .tuple #[.string t, .bool q] ∧ (if Sc.is0x (L.bs s) = true then Sc.num1 16 ((L.bs s).drop 2) else Sc.num1 10 (L.bs s)) = Sc.num1 (if q = true then 16 else 10) (L.bs t) := by
    by_cases c : Sc.is0x (L.bs s) = true
    · rw [if_pos c, if_pos c]
      refine ⟨strOfNums ((L.bs s).drop 2), true, ?_, trivial, rfl, ?_⟩
      · rw [strOfNums_size, List.length_drop, L.bs_len]; omega
      · rw [if_pos rfl, L.bs_str _ (fun x hx => Sc.byt s x (List.mem_of_mem_drop hx))]
    · rw [if_neg c, if_neg c]
      exact ⟨s, false, hs, trivial, rfl, rfl⟩
  rw [hv] at C
  rw [hR]
  clear hv hR hb h0 hs
  cases b with
  | true =>
    have D := Lib.hid (Sc.parse_any t ht 16 (Or.inr rfl) w hE)
    rw [if_pos rfl]
    have hr := fun m => Sc.num1_rng (b := 16) (m := m) (xs := L.bs t) (by omega)
    generalize Sc.num1 16 (L.bs t) = R at *
    go_enter Tryd.func23, Tryd.ntmps23
    go_wp2_with (fail)
    refine C.out.mono ?_; rintro e w2 ⟨rfl, rfl⟩
    go_wp2_with (fail)
    refine D.out.mono ?_; rintro e w2 ⟨v, rfl, hP, hB⟩
    clear C D hE
    replace hB := Lib.hid hB
    cases R with
    | none =>
      obtain ⟨x, N, rfl⟩ := hP
      clear hr
      go_wp2
      go_ret2
      exact ⟨rfl, hB.out⟩
    | some n =>
      have hv : v = .tuple #[.int .u64 n, .nilIface] := hP
      subst hv
      obtain ⟨n0, n1⟩ := hr n rfl
      clear hP hr
      have hm : n % 4294967296 = n := Int.emod_eq_of_lt n0 n1
      go_wp2
      go_ret2
      exact ⟨rfl, hB.out⟩
  | false =>
    have D := Lib.hid (Sc.parse_any t ht 10 (Or.inl rfl) w hE)
    rw [if_neg (by decide)]
    have hr := fun m => Sc.num1_rng (b := 10) (m := m) (xs := L.bs t) (by omega)
    generalize Sc.num1 10 (L.bs t) = R at *
    go_enter Tryd.func23, Tryd.ntmps23
    go_wp2_with (fail)
    refine C.out.mono ?_; rintro e w2 ⟨rfl, rfl⟩
    go_wp2_with (fail)
    refine D.out.mono ?_; rintro e w2 ⟨v, rfl, hP, hB⟩
    clear C D hE
    replace hB := Lib.hid hB
    cases R with
    | none =>
      obtain ⟨x, N, rfl⟩ := hP
      clear hr
      go_wp2
      go_ret2
      exact ⟨rfl, hB.out⟩
    | some n =>
      have hv : v = .tuple #[.int .u64 n, .nilIface] := hP
      subst hv
      obtain ⟨n0, n1⟩ := hr n rfl
      clear hP hr
      have hm : n % 4294967296 = n := Int.emod_eq_of_lt n0 n1
      go_wp2
      go_ret2
      exact ⟨rfl, hB.out⟩
end Go.Proofs.YtpbgniffjlcbhaaDoor
