/-
  The walk of DumpHex.
-/
import Derived.Test.YtpfejjkoemnmiaaM15
namespace Go.Proofs.Ytpfejjkoemnmiaa
open Go.RowKit
set_option linter.unusedVariables false
set_option linter.unusedSimpArgs false
set_option maxRecDepth 100000
set_option maxHeartbeats 4000000 in
set_option maxRecDepth 100000 in
theorem walk_hex (w : World) (x : Int) (h0 : 0 ≤ x) (h1 : x < 4294967296) (s : ByteArray) (hs : s.size ≤ 9223372036854775807) :
    Calls Try.prog 4 #[.int .u32 x, .string s] w fun e w' => e = .returned (.bool true) ∧ Below w.heap.size w w' := by
  have C1 := fun v => Du.number_any (strOfNums (Du.hex x)) (by rw [(Du.hexS x h0).2]; omega) v
  rw [(Du.hexS x h0).1, Du.num_hex h0 h1] at C1
  have hH8 := (Du.hexS x h0).2
  have CH := Lib.hid (fun v => Du.hex_any h0 h1 v)
  have CQ := Lib.hid (fun v => Du.rhex_any h0 h1 v)
  generalize strOfNums (Du.hex x) = H at *
  rw [show Du.numV (some x) = .tuple #[.int .u32 x, .bool true] from rfl] at C1
  replace C1 := Lib.hid C1
  by_cases c : s.size ≤ 20
  · have ht : (s).size ≤ 20 := c
    have CN := Lib.hid (fun v => Du.number_any (s) (by omega) v)
    have CR := Lib.hid (fun v => Du.rnumber_any (s) (by omega) v)
    clear ht
    go_enter Try.func4, Try.ntmps4
    go_wp2_with (fail)
    refine (Du.shown_any w).mono ?_; rintro r w2 ⟨rfl, hE⟩
    have hB := Lib.hid hE
    clear hE
    go_wp2_with (fail)
    refine (CH.out w2).mono ?_; rintro r w3 ⟨rfl, hE⟩
    replace hB := Lib.hid (hB.out.trans (hE.mono hB.out.size))
    clear hE
    go_wp2_with (fail)
    refine (C1.out w3).mono ?_; rintro r w4 ⟨rfl, hE⟩
    replace hB := Lib.hid (hB.out.trans (hE.mono hB.out.size))
    clear hE C1
    go_wp2_with (fail)
    refine (CN.out w4).mono ?_; rintro r w5 ⟨rfl, hE⟩
    replace hB := Lib.hid (hB.out.trans (hE.mono hB.out.size))
    clear hE CN
    cases hr : Du.num (L.bs (s)) with
    | none =>
      rw [hr] at CR
      rw [show Du.numV none = .tuple #[.int .u32 0, .bool false] from rfl]
      go_wp2_with (fail)
      refine (CR.out w5).mono ?_; rintro r w6 ⟨rfl, rfl⟩
      clear CR
      rw [show Du.numV none = .tuple #[.int .u32 0, .bool false] from rfl]
      go_wp2_with (fail)
      refine (CQ.out w5).mono ?_; rintro r w6 ⟨rfl, rfl⟩
      clear CQ CH
      go_wp2
      go_ret
      exact ⟨rfl, hB.out⟩
    | some y =>
      rw [hr] at CR
      obtain ⟨y2, y0, y1⟩ := Du.hex_num hr
      have CY := fun v => Du.hex_any y0 y1 v
      rw [y2, L.str_bs] at CY
      replace CY := Lib.hid CY
      clear y2 hr
      rw [show Du.numV (some y) = .tuple #[.int .u32 y, .bool true] from rfl]
      go_wp2_with (fail)
      refine (CR.out w5).mono ?_; rintro r w6 ⟨rfl, rfl⟩
      clear CR
      rw [show Du.numV (some y) = .tuple #[.int .u32 y, .bool true] from rfl]
      go_wp2_with (fail)
      refine (CQ.out w5).mono ?_; rintro r w6 ⟨rfl, rfl⟩
      clear CQ CH
      go_wp2_with (fail)
      refine (CY.out w5).mono ?_; rintro r w6 ⟨rfl, hE⟩
      replace hB := Lib.hid (hB.out.trans (hE.mono hB.out.size))
      clear hE CY
      go_wp2
      go_ret
      exact ⟨rfl, hB.out⟩
  · have c2 : 20 < s.size := by omega
    have ht : (s.extract 0 20).size ≤ 20 := by rw [← L.bs_len, Du.bs_extract, List.length_take]; omega
    have CN := Lib.hid (fun v => Du.number_any (s.extract 0 20) (by omega) v)
    have CR := Lib.hid (fun v => Du.rnumber_any (s.extract 0 20) (by omega) v)
    clear ht
    go_enter Try.func4, Try.ntmps4
    go_wp2_with (fail)
    refine (Du.shown_any w).mono ?_; rintro r w2 ⟨rfl, hE⟩
    have hB := Lib.hid hE
    clear hE
    go_wp2_with (fail)
    refine (CH.out w2).mono ?_; rintro r w3 ⟨rfl, hE⟩
    replace hB := Lib.hid (hB.out.trans (hE.mono hB.out.size))
    clear hE
    go_wp2_with (fail)
    refine (C1.out w3).mono ?_; rintro r w4 ⟨rfl, hE⟩
    replace hB := Lib.hid (hB.out.trans (hE.mono hB.out.size))
    clear hE C1
    go_wp2_with (fail)
    refine (CN.out w4).mono ?_; rintro r w5 ⟨rfl, hE⟩
    replace hB := Lib.hid (hB.out.trans (hE.mono hB.out.size))
    clear hE CN
    cases hr : Du.num (L.bs (s.extract 0 20)) with
    | none =>
      rw [hr] at CR
      rw [show Du.numV none = .tuple #[.int .u32 0, .bool false] from rfl]
      go_wp2_with (fail)
      refine (CR.out w5).mono ?_; rintro r w6 ⟨rfl, rfl⟩
      clear CR
      rw [show Du.numV none = .tuple #[.int .u32 0, .bool false] from rfl]
      go_wp2_with (fail)
      refine (CQ.out w5).mono ?_; rintro r w6 ⟨rfl, rfl⟩
      clear CQ CH
      go_wp2
      go_ret
      exact ⟨rfl, hB.out⟩
    | some y =>
      rw [hr] at CR
      obtain ⟨y2, y0, y1⟩ := Du.hex_num hr
      have CY := fun v => Du.hex_any y0 y1 v
      rw [y2, L.str_bs] at CY
      replace CY := Lib.hid CY
      clear y2 hr
      rw [show Du.numV (some y) = .tuple #[.int .u32 y, .bool true] from rfl]
      go_wp2_with (fail)
      refine (CR.out w5).mono ?_; rintro r w6 ⟨rfl, rfl⟩
      clear CR
      rw [show Du.numV (some y) = .tuple #[.int .u32 y, .bool true] from rfl]
      go_wp2_with (fail)
      refine (CQ.out w5).mono ?_; rintro r w6 ⟨rfl, rfl⟩
      clear CQ CH
      go_wp2_with (fail)
      refine (CY.out w5).mono ?_; rintro r w6 ⟨rfl, hE⟩
      replace hB := Lib.hid (hB.out.trans (hE.mono hB.out.size))
      clear hE CY
      go_wp2
      go_ret
      exact ⟨rfl, hB.out⟩
end Go.Proofs.Ytpfejjkoemnmiaa
