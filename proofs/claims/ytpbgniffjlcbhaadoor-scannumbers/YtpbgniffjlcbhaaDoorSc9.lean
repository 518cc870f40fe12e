/-
  Join, both: tokens joined.
-/
import Derived.Test.YtpbgniffjlcbhaaDoorSc8
namespace Go.Proofs.YtpbgniffjlcbhaaDoor
open Go.RowKit
set_option linter.unusedVariables false
set_option linter.unusedSimpArgs false
set_option maxRecDepth 100000
theorem Sc.tk_mem {ys : List Sc.Tk} {k : Nat} (h : k < ys.length) : Sc.tk ys k ∈ ys := List.mem_of_getElem? (Sc.tk_get h)
theorem Sc.join_succ {ys : List Sc.Tk} {k : Nat} (h : k < ys.length) : Sc.join (ys.take (k + 1)) = Sc.join (ys.take k) ++ (Sc.dot (Sc.tk ys k) ++ (Sc.tk ys k).t ++ [32]) := by
  unfold Sc.join
  rw [List.take_add_one, Sc.tk_get h, List.flatMap_append]
  congr 1
  show Sc.piece (Sc.tk ys k) ++ [] = _
  rw [List.append_nil]; rfl
theorem Sc.join_split (ys : List Sc.Tk) (k : Nat) : Sc.join ys = Sc.join (ys.take k) ++ Sc.join (ys.drop k) := by
  unfold Sc.join
  rw [← List.flatMap_append, List.take_append_drop]
theorem Sc.join_take_le (ys : List Sc.Tk) (k : Nat) : (Sc.join (ys.take k)).length ≤ (Sc.join ys).length := by
  rw [Sc.join_split ys k, List.length_append]; omega
theorem Sc.join_byt {ys : List Sc.Tk} (h : ∀ y ∈ ys, L.Byt y.t) : L.Byt (Sc.join ys) := fun x hx => by
  obtain ⟨y, hy, hxy⟩ := List.mem_flatMap.1 hx
  unfold Sc.piece Sc.dot at hxy
  simp only [List.mem_append, List.mem_singleton] at hxy
  rcases hxy with (h1 | h1) | h1
  · split at h1
    · simp at h1; omega
    · simp at h1
  · exact h y hy x h1
  · omega
theorem Sc.info47 : (Tryd.prog.info? 47).map (·.size) = some 2 := by kernel_rfl
set_option maxHeartbeats 4000000 in
set_option maxRecDepth 100000 in
theorem Sc.join_any {w0 : World} {A : Option Addr} {n c : Nat} {ys : List Sc.Tk} (h : Tr w0 A n c ys) (hb : ∀ y ∈ ys, L.Byt y.t) (hj : (Sc.join ys).length ≤ 1000000) (hn : n ≤ 1000000) :
    Calls Tryd.prog 13 #[.slice A n c] w0 fun e w' => e = .returned (.string (strOfNums (Sc.join ys))) ∧ Below w0.heap.size w0 w' := by
  have hl := h.len
  have hle := h.le
  have H := Lib.hid h
  have hn1 : (n : Int) ≤ 1000000 := by omega
  have hB0 := Lib.hid (Below.trans (Below.refl w0.heap.size w0) ((Kept.refl w0).alloc #[.pointer Option.none, .slice Option.none 0 0] 47).below)
  have hD0 := Lib.hid (Bu.Bld.new w0)
  clear h
  go_enter Tryd.func13, Tryd.ntmps13
  go_wp2
  go_loopw [8] (fun i wr => ∃ k : Nat, k ≤ n ∧ i = .int .i64 (k : Int) ∧ Bu.Bld w0.heap.size w0.heap.size (Sc.join (ys.take k)) wr ∧ Below w0.heap.size w0 wr) (fun i _ => n - (intOf i).toNat)
  case atStart => exact ⟨0, Nat.zero_le _, rfl, hD0.out, hB0.out⟩
  case round =>
    obtain ⟨k, hk, rfl, hD, hB⟩ := hrel
    clear hD0 hB0
    have hk0 : (0 : Int) ≤ (k : Int) := by omega
    by_cases hkn : k < n
    · have c1 : (k : Int) < (n : Int) := by omega
      have hT := H.out.below hB
      obtain ⟨b, off, rfl⟩ := hT.place (by omega)
      have hR := Lib.hid (hT.range k hkn)
      have hjs := Sc.join_succ (ys := ys) (k := k) (by omega)
      have hy := hb _ (Sc.tk_mem (ys := ys) (k := k) (by omega))
      have hjl := Sc.join_take_le ys (k + 1)
      rw [hjs] at hjl
      simp only [List.length_append, List.length_cons, List.length_nil] at hjl
      replace hjs := Lib.hid hjs
      generalize Sc.tk ys k = y at *
      replace hR := Lib.hid (show wr.rangeAt b (off + k * 4) [.int .i64 y.k, .int .i64 y.p, .string (strOfNums y.t), .int .u32 y.n] from hR.out)
      have hbs := L.bs_str y.t hy
      have hsz := strOfNums_size y.t
      have hA := ((Kept.refl wr).alloc #[.int .i64 y.k, .int .i64 y.p, .string (strOfNums y.t), .int .u32 y.n] 34).below
      have hG := Lib.hid (Has.new #[.int .i64 y.k, .int .i64 y.p, .string (strOfNums y.t), .int .u32 y.n] 34 wr)
      have hD1 := Lib.hid (hD.1.below hA)
      have hB1 := Lib.hid (hB.trans (hA.mono hB.size))
      clear hA hT hD hb hy
      by_cases d4 : y.k = 4
      · have hdot : Sc.dot y = [46] := by unfold Sc.dot; rw [if_pos d4]
        rw [d4] at hG hD1 hB1 hR
        rw [hdot] at hjs hjl
        go_wp2_with (first
          | (with_reducible refine wpList_load_mid (op := ⟨some 11, _, _, _, _, _⟩) rfl 34 (.tmp 10) rfl b (off + k * 4) rfl [.int .i64 4, .int .i64 y.p, .string (strOfNums y.t), .int .u32 y.n] _ hR.out Tryd.underlying34 rfl (by kernel_rfl) ?_)
          | fail)
        refine (Bu.writeB_any hD1.out 46 (by omega) hB1.out.size).mono ?_; rintro e w2 ⟨rfl, hD2, hB2, hS2⟩
        have hG2 := hS2 _ _ _ (by decide) (by decide) hG.out
        replace hB1 := Lib.hid (hB1.out.trans hB2)
        clear hD1 hG hS2 hB2
        have c2 := hG2.cell 2 _ rfl
        go_wp2_with (fail)
        refine (Bu.write_any hD2 (strOfNums y.t) (by rw [hsz, List.length_append]; simp only [List.length_cons, List.length_nil] at hjl ⊢; omega) hB1.out.size).mono ?_; rintro e w3 ⟨rfl, hD3, hB3, hS3⟩
        replace hB1 := Lib.hid (hB1.out.trans hB3)
        clear hD2 hS3 hB3 hG2 c2
        rw [hbs] at hD3
        go_wp2_with (fail)
        refine (Bu.writeB_any hD3 32 (by simp only [List.length_append, List.length_cons, List.length_nil] at hjl ⊢; omega) hB1.out.size).mono ?_; rintro e w4 ⟨rfl, hD4, hB4, hS4⟩
        have hF : Bu.Bld w0.heap.size w0.heap.size (Sc.join (ys.take (k + 1))) w4 := by
          rw [hjs.out, ← List.append_assoc, ← List.append_assoc]
          exact hD4.full (by simp)
        replace hB1 := Lib.hid (hB1.out.trans hB4)
        clear hD3 hS4 hB4 hD4
        go_wp2
        go_roundw
        case rel => exact ⟨k + 1, by omega, by go_num, hF, hB1.out⟩
        case measure => simp [intOf]; omega
      · have hdot : Sc.dot y = [] := by unfold Sc.dot; rw [if_neg d4]
        have d5 : (y.k == 4) = false := by simpa using d4
        rw [hdot] at hjs hjl
        go_wp2_with (first
          | (with_reducible refine wpList_load_mid (op := ⟨some 11, _, _, _, _, _⟩) rfl 34 (.tmp 10) rfl b (off + k * 4) rfl [.int .i64 y.k, .int .i64 y.p, .string (strOfNums y.t), .int .u32 y.n] _ hR.out Tryd.underlying34 rfl (by kernel_rfl) ?_)
          | fail)
        refine (Bu.write_any hD1.out (strOfNums y.t) (by rw [hsz]; simp only [List.length_nil] at hjl; omega) hB1.out.size).mono ?_; rintro e w3 ⟨rfl, hD3, hB3, hS3⟩
        replace hB1 := Lib.hid (hB1.out.trans hB3)
        clear hD1 hS3 hB3 hG
        rw [hbs] at hD3
        go_wp2_with (fail)
        refine (Bu.writeB_any hD3 32 (by simp only [List.length_append, List.length_nil] at hjl ⊢; omega) hB1.out.size).mono ?_; rintro e w4 ⟨rfl, hD4, hB4, hS4⟩
        have hF : Bu.Bld w0.heap.size w0.heap.size (Sc.join (ys.take (k + 1))) w4 := by
          rw [hjs.out, List.nil_append, ← List.append_assoc]
          exact hD4.full (by simp)
        replace hB1 := Lib.hid (hB1.out.trans hB4)
        clear hD3 hS4 hB4 hD4
        go_wp2
        go_roundw
        case rel => exact ⟨k + 1, by omega, by go_num, hF, hB1.out⟩
        case measure => simp [intOf]; omega
    · obtain rfl : k = n := by omega
      have ht : ys.take k = ys := List.take_of_length_le (by omega)
      rw [ht] at hD
      replace hD := Lib.hid hD
      replace hB := Lib.hid hB
      have hX := Sc.join_byt hb
      clear hb
      go_wp2_with (fail)
      refine (Bu.str_any hD.out hX).mono ?_; rintro e w2 ⟨rfl, hB2⟩
      replace hB := Lib.hid (hB.out.trans hB2)
      clear hB2
      go_wp2
      go_ret
      exact ⟨rfl, hB.out⟩
end Go.Proofs.YtpbgniffjlcbhaaDoor
