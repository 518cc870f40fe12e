/-
  What numberOf uses of strings and of internal/strconv: CutPrefix of 0x, ParseUint of 32 bits, by tens and by sixteens.
-/
import Derived.Test.YtpbgniffjlcbhaaDoorSc2
import Derived.Lib.Strings
import Derived.Lib.Walk
import Derived.Lib.ConvBytes
import Derived.Lib.AtoiErrMem
import Derived.Lib.ParseIntBMem
import Derived.Lib.Hide
import Derived.Laws.Strings3
import Derived.Laws.Closers25
import Derived.Laws.Closers25b
import Derived.WalkKit
import Derived.BigCall
import Derived.BigGuard
namespace Go.Proofs.YtpbgniffjlcbhaaDoor
open Go.RowKit
set_option linter.unusedVariables false
set_option linter.unusedSimpArgs false
set_option maxRecDepth 100000
theorem Sc.bs_extract (s : ByteArray) (a b : Nat) : L.bs (s.extract a b) = ((L.bs s).drop a).take (b - a) := by
  unfold L.bs
  rw [Lib.extract_data, List.map_take, List.map_drop]
theorem Sc.bs_inj {a b : ByteArray} (h : L.bs a = L.bs b) : a = b := by rw [← L.str_bs a, ← L.str_bs b, h]
theorem Sc.list_at {s : ByteArray} (l : List UInt8) : (s.toList == l) = decide (L.bs s = l.map fun b => (b.toNat : Int)) := by
  rw [ByteArray.toList_eq]
  by_cases c : s.data.toList = l
  · rw [c, decide_eq_true (by rw [← c]; rfl)]
    simp
  · rw [decide_eq_false, beq_eq_false_iff_ne.2 c]
    intro q
    refine c ?_
    have h : L.bs s = L.bs ⟨l.toArray⟩ := by rw [q]; rfl
    have := Sc.bs_inj h
    rw [this]
theorem Sc.list_eq (s t : ByteArray) : (s.toList == t.toList) = decide (L.bs s = L.bs t) := by
  rw [Sc.list_at, ByteArray.toList_eq]; rfl
theorem Sc.tail_eq (s : ByteArray) (k : Nat) : s.extract k s.size = strOfNums ((L.bs s).drop k) := by
  have h : L.bs (s.extract k s.size) = (L.bs s).drop k := by
    rw [Sc.bs_extract, List.take_of_length_le (by rw [List.length_drop, L.bs_len]; exact Nat.le_refl _)]
  rw [← h, L.str_bs]
/-- it begins with 0x -/
def Sc.is0x (xs : List Int) : Bool := decide (xs.take 2 = [48, 120])
set_option maxRecDepth 100000 in
theorem Sc.has_any (s : ByteArray) (hs : s.size ≤ 100000000) (w : World) : Calls Tryd.prog 47 #[.string s, .string ⟨#[48, 120]⟩] w fun e w' => e = .returned (.bool (Sc.is0x (L.bs s))) ∧ w = w' := by
  have hl := L.bs_len s
  have hs1 : (s.size : Int) ≤ 100000000 := by omega
  by_cases c0 : s.size < 2
  · have e : Sc.is0x (L.bs s) = false := by
      unfold Sc.is0x
      refine decide_eq_false fun q => ?_
      have := congrArg List.length q
      rw [List.length_take] at this
      simp at this
      omega
    rw [e]
    have c1 : ¬ (2 : Int) ≤ (s.size : Int) := by omega
    clear hl e
    go_enter Tryd.func47, Tryd.ntmps47
    go_wp2
    go_ret
    exact ⟨rfl, rfl⟩
  · have c1 : (2 : Int) ≤ (s.size : Int) := by omega
    obtain ⟨q, hq⟩ : ∃ q, q = Sc.is0x (L.bs s) := ⟨_, rfl⟩
    have he : ((ByteArray.extract s 0 2).toList == [48, 120]) = q := by
      rw [Sc.list_at, Sc.bs_extract, hq]; rfl
    rw [← hq]
    clear hl hq
    go_enter Tryd.func47, Tryd.ntmps47
    go_wp2
    go_ret
    exact ⟨rfl, rfl⟩
/-- what CutPrefix of 0x hands back -/
def Sc.cutV (s : ByteArray) : Value := if Sc.is0x (L.bs s) = true then .tuple #[.string (strOfNums ((L.bs s).drop 2)), .bool true] else .tuple #[.string s, .bool false]
theorem Sc.is0x_len {xs : List Int} (h : Sc.is0x xs = true) : 2 ≤ xs.length := by
  have := congrArg List.length (of_decide_eq_true h)
  rw [List.length_take] at this
  simp at this
  omega
set_option maxRecDepth 100000 in
theorem Sc.lcut_any (s : ByteArray) (hs : s.size ≤ 100000000) (w : World) : Calls Tryd.prog 42 #[.string s, .string ⟨#[48, 120]⟩] w fun e w' => e = .returned (Sc.cutV s) ∧ w = w' := by
  have hl := L.bs_len s
  have hs1 : (s.size : Int) ≤ 100000000 := by omega
  have C := Lib.hid (Sc.has_any s hs w)
  unfold Sc.cutV
  by_cases c : Sc.is0x (L.bs s) = true
  · rw [if_pos c, ← Sc.tail_eq]
    have c1 : (2 : Int) ≤ (s.size : Int) := by have := Sc.is0x_len c; omega
    rw [c] at C
    clear c hl
    go_enter Tryd.func42, Tryd.ntmps42
    go_wp2_with (fail)
    refine C.out.mono ?_; rintro e w2 ⟨rfl, rfl⟩
    go_wp2
    go_ret2
    exact ⟨rfl, rfl⟩
  · rw [if_neg c]
    have c' : Sc.is0x (L.bs s) = false := by simpa using c
    rw [c'] at C
    clear c c' hl
    go_enter Tryd.func42, Tryd.ntmps42
    go_wp2_with (fail)
    refine C.out.mono ?_; rintro e w2 ⟨rfl, rfl⟩
    go_wp2
    go_ret2
    exact ⟨rfl, rfl⟩
set_option maxRecDepth 100000 in
theorem Sc.cut_any (s : ByteArray) (hs : s.size ≤ 100000000) (w : World) : Calls Tryd.prog 36 #[.string s, .string ⟨#[48, 120]⟩] w fun e w' => e = .returned (Sc.cutV s) ∧ w = w' := by
  have C := Lib.hid (Sc.lcut_any s hs w)
  unfold Sc.cutV at C ⊢
  split at C
  · rename_i c
    rw [if_pos c]
    generalize strOfNums ((L.bs s).drop 2) = t at *
    clear c
    go_enter Tryd.func36, Tryd.ntmps36
    go_wp2_with (fail)
    refine C.out.mono ?_; rintro e w2 ⟨rfl, rfl⟩
    go_wp2
    go_ret2
    exact ⟨rfl, rfl⟩
  · rename_i c
    rw [if_neg c]
    clear c
    go_enter Tryd.func36, Tryd.ntmps36
    go_wp2_with (fail)
    refine C.out.mono ?_; rintro e w2 ⟨rfl, rfl⟩
    go_wp2
    go_ret2
    exact ⟨rfl, rfl⟩
theorem Sc.lower_any (c l : Int) (h : bits .or .u8 c 32 = l) (w : World) : Calls Tryd.prog 48 #[.int .u8 c] w fun e w' => e = .returned (.int .u8 l) ∧ w = w' := by
  subst h
  go_enter Tryd.func48, Tryd.ntmps48
  go_wp2
  go_ret
  exact ⟨rfl, rfl⟩
def Sc.lowOk (c : Int) : Bool := decide (0 ≤ bits .or .u8 c 32) && decide (bits .or .u8 c 32 < 256) && (L.digit c || match Sc.six c with
  | some d => decide (97 ≤ bits .or .u8 c 32) && decide (bits .or .u8 c 32 ≤ 102) && decide (bits .or .u8 c 32 - 87 = d)
  | Option.none => decide (bits .or .u8 c 32 < 97) || decide (102 < bits .or .u8 c 32))
theorem Sc.low_all : ((List.range 256).all fun n => Sc.lowOk (n : Int)) = true := by kernel_rfl
theorem Sc.low {c : Int} (h0 : 0 ≤ c) (h1 : c < 256) : Sc.lowOk c = true := by
  have := List.all_eq_true.1 Sc.low_all c.toNat (List.mem_range.2 (by omega))
  rwa [Int.toNat_of_nonneg h0] at this
/-- what ParseUint tells -/
def Sc.Pu (T : TypeId) (R : Option Int) (v : Value) : Prop := match R with
  | some n => v = .tuple #[.int .u64 n, .nilIface]
  | Option.none => ∃ x i, (i = 1 ∨ i = 2) ∧ v = .tuple #[.int .u64 x, .iface T (.int .i64 i)]
theorem Sc.Pu.no {T : TypeId} {R : Option Int} (h : R = Option.none) (x i : Int) (hi : i = 1 ∨ i = 2) : Sc.Pu T R (.tuple #[.int .u64 x, .iface T (.int .i64 i)]) := by
  subst h; exact ⟨x, i, hi, rfl⟩
theorem Sc.Pu.yes {T : TypeId} {R : Option Int} {n : Int} (h : R = some n) : Sc.Pu T R (.tuple #[.int .u64 n, .nilIface]) := by
  subst h; exact rfl
theorem Sc.ncons (b c : Int) (r : List Int) (n : Int) : Sc.num b (c :: r) n = match Sc.step b n c with | some m => Sc.num b r m | Option.none => Option.none := rfl
theorem Sc.ret_tup {v : Value} {Q : Value → Prop} (h : Q v) : ∃ u, Ending.returned v = .returned u ∧ Q u := ⟨v, rfl, h⟩
theorem Sc.nnone {b c n : Int} {r : List Int} {R : Option Int} (h6 : Sc.six c = Option.none) (h : R = Sc.num b (c :: r) n) : R = Option.none := by
  rw [Sc.ncons] at h
  unfold Sc.step at h
  rw [h6] at h
  exact h
theorem Sc.ncase {b c n d : Int} {r : List Int} {R : Option Int} (h6 : Sc.six c = some d) (h : R = Sc.num b (c :: r) n) : (d < b ∧ n * b + d < 4294967296 ∧ Hid (R = Sc.num b r (n * b + d))) ∨ (d < b ∧ ¬ n * b + d < 4294967296 ∧ Hid (R = Option.none)) ∨ (¬ d < b ∧ Hid (R = Option.none)) := by
  rw [Sc.ncons] at h
  unfold Sc.step at h
  rw [h6] at h
  simp only [] at h
  by_cases c1 : d < b
  · rw [if_pos c1] at h
    by_cases c2 : n * b + d < 4294967296
    · rw [if_pos c2] at h
      exact Or.inl ⟨c1, c2, Lib.hid h⟩
    · rw [if_neg c2] at h
      exact Or.inr (Or.inl ⟨c1, c2, Lib.hid h⟩)
  · rw [if_neg c1] at h
    exact Or.inr (Or.inr ⟨c1, Lib.hid h⟩)
set_option maxHeartbeats 8000000 in
set_option maxRecDepth 100000 in
theorem Sc.iparse_any (t : ByteArray) (hne : t.size ≠ 0) (hmax : t.size ≤ 100000000) (b : Int) (hb : b = 10 ∨ b = 16) (w : World) :
    Calls Tryd.prog 43 #[.string t, .int .i64 b, .int .i64 32] w fun e w' => ∃ v, e = .returned v ∧ Sc.Pu 66 (Sc.num b (L.bs t) 0) v ∧ w' = Lib.bytesWorld w 5 t := by
  have hemp : t.toList.isEmpty = false := by
    rw [← decide_eq_emptyBytes]
    exact decide_eq_false (fun h => hne (by rw [h]; rfl))
  have hcv := Lib.run_convert_string_bytes (P := Tryd.prog) w 9 37 5 t (u := .string) Tryd.underlying9 Tryd.underlying37 Tryd.underlying5
  have hB : ∀ j y, (L.bs t)[j]? = some y → (Lib.bytesWorld w 5 t).cell? ⟨w.heap.size, j, Option.none⟩ = some (.int .u8 y) := fun j y hy => by
    obtain ⟨hj, hx⟩ := L.at_of hy
    rw [Lib.bytesWorld_cell w 5 t j hj, ← hx]
    congr 3
    rw [List.getD_eq_getElem?_getD, List.getElem?_eq_getElem (by simpa using hj)]
    rfl
  obtain ⟨W1, hW1⟩ : ∃ W1, W1 = Lib.bytesWorld w 5 t := ⟨_, rfl⟩
  rw [← hW1] at hcv hB ⊢
  clear hW1
  replace hB := Lib.hid hB
  have hl := L.bs_len t
  have hbyt := Lib.hid (L.bs_rng t)
  obtain ⟨bs, hL⟩ : ∃ bs, bs = L.bs t := ⟨_, rfl⟩
  rw [← hL] at hB hl hbyt ⊢
  clear hL
  obtain ⟨R, hR⟩ : ∃ R, R = Sc.num b bs 0 := ⟨_, rfl⟩
  rw [← hR]
  have hmv : IntKind.u64.wrap (IntKind.u64.wrap 4294967296 - 1) = 4294967295 := by
    rw [IntKind.wrap_u64, IntKind.wrap_u64]
    decide
  have hs1 : (t.size : Int) ≤ 100000000 := by omega
  have hs0 : (1 : Int) ≤ (t.size : Int) := by omega
  rcases hb with rfl | rfl
  all_goals
    go_enter Tryd.func43, Tryd.ntmps43
    go_wp2
    go_loop [12, 13, 101] (fun vu vn vi => ∃ (k : Nat) (a : Int), vu = .bool false ∧ vn = .int .u64 a ∧ vi = .int .i64 k ∧ k ≤ t.size ∧ 0 ≤ a ∧ a ≤ 4294967295 ∧ Hid (R = Sc.num _ (bs.drop k) a))
      (fun _ _ vi => t.size - (intOf vi).toNat)
    case atStart => exact ⟨0, 0, rfl, rfl, rfl, by omega, by omega, by omega, Lib.hid hR⟩
    case round =>
      obtain ⟨k, a, rfl, rfl, rfl, hk, a0, a1, hh⟩ := hrel
      have hk0 : (0 : Int) ≤ (k : Int) := by omega
      have hR2 := hh.out
      clear hh
      by_cases hkn : k < t.size
      · have hkn1 : (k : Int) < (t.size : Int) := by omega
        obtain ⟨c, hy⟩ : ∃ y, bs[k]? = some y := ⟨_, List.getElem?_eq_getElem (by omega)⟩
        have hc := hB.out k c hy
        obtain ⟨y0, y1⟩ := hbyt.out c (List.mem_of_getElem? hy)
        have hd : bs.drop k = c :: bs.drop (k + 1) := by
          rw [List.drop_eq_getElem_cons (by omega)]
          congr 1
          rw [List.getElem?_eq_getElem (by omega)] at hy
          exact Option.some.inj hy
        have hlow := Sc.low y0 y1
        rw [hd] at hR2
        clear hy hd hB hbyt hR
        unfold Sc.lowOk at hlow
        obtain ⟨l, hl32⟩ : ∃ l, bits .or .u8 c 32 = l := ⟨_, rfl⟩
        have CL := Lib.hid (Sc.lower_any c l hl32)
        rw [hl32] at hlow
        simp only [Bool.and_eq_true, decide_eq_true_eq, Bool.or_eq_true] at hlow
        obtain ⟨⟨l0, l1⟩, hlow⟩ := hlow
        clear hl32
        unfold L.digit at hlow
        cases h6 : Sc.six c with
        | none =>
          rw [h6] at hlow
          have hdg : ¬ (48 ≤ c ∧ c ≤ 57) := by
            intro q
            unfold Sc.six at h6
            rw [if_pos q] at h6
            cases h6
          have hR3 := Lib.hid (Sc.nnone h6 hR2)
          simp only [Bool.and_eq_true, decide_eq_true_eq, Bool.or_eq_true] at hlow
          have hlow2 : l < 97 ∨ 102 < l := by omega
          clear hlow h6 hR2
          rcases hlow2 with hl2 | hl2
          all_goals
            rcases (show c = 95 ∨ (c == 95) = false by rw [beq_eq_false_iff_ne]; omega) with rfl | h95
          all_goals
            go_wp2_with (refine (CL.out _).mono ?_; rintro e w2 ⟨rfl, rfl⟩)
            all_goals go_ret2
            all_goals exact ⟨_, rfl, Sc.Pu.no hR3.out _ _ (by omega), rfl⟩
        | some d =>
          rw [h6] at hlow
          obtain ⟨d0, d1⟩ := Sc.six_lt h6
          simp only [Bool.and_eq_true, decide_eq_true_eq, Bool.or_eq_true] at hlow
          have hcase : (48 ≤ c ∧ c ≤ 57 ∧ d = c - 48) ∨ (¬ (48 ≤ c ∧ c ≤ 57) ∧ 97 ≤ l ∧ l ≤ 102 ∧ d = l - 97 + 10) := by
            by_cases q : 48 ≤ c ∧ c ≤ 57
            · refine Or.inl ⟨q.1, q.2, ?_⟩
              unfold Sc.six at h6
              rw [if_pos q] at h6
              cases h6; rfl
            · exact Or.inr ⟨q, by omega, by omega, by omega⟩
          have hR3 := Sc.ncase h6 hR2
          have h95 : (c == 95) = false := by
            rw [beq_eq_false_iff_ne]
            rintro rfl
            have e : Sc.six 95 = Option.none := by decide
            rw [e] at h6
            cases h6
          clear h6 hlow hR2
          rcases hcase with ⟨q0, q1, rfl⟩ | ⟨q0, q1, q2, rfl⟩
          all_goals
            rcases hR3 with ⟨hlt, hfit, hR4⟩ | ⟨hlt, hfit, hR4⟩ | ⟨hlt, hR4⟩
            · go_wp2_with (refine (CL.out _).mono ?_; rintro e w2 ⟨rfl, rfl⟩)
              all_goals refine ⟨⟨k + 1, _, rfl, rfl, (by first | rfl | (congr 1; omega)), by omega, ?_, ?_, hR4⟩, by simp [intOf]; omega⟩
              all_goals omega
            · go_wp2_with (refine (CL.out _).mono ?_; rintro e w2 ⟨rfl, rfl⟩)
              all_goals go_ret2
              all_goals exact ⟨_, rfl, Sc.Pu.no hR4.out _ _ (by omega), rfl⟩
            · go_wp2_with (refine (CL.out _).mono ?_; rintro e w2 ⟨rfl, rfl⟩)
              all_goals go_ret2
              all_goals exact ⟨_, rfl, Sc.Pu.no hR4.out _ _ (by omega), rfl⟩
      · have hkk : k = t.size := by omega
        subst hkk
        rw [List.drop_eq_nil_of_le (by omega)] at hR2
        have hR3 := Lib.hid (show R = some a from hR2)
        clear hR2 hB hbyt hR
        go_wp2
        go_ret2
        exact ⟨_, rfl, Sc.Pu.yes hR3.out, rfl⟩
end Go.Proofs.YtpbgniffjlcbhaaDoor
