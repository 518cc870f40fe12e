/-
  The contract of Of, the program's: whatever the order in which its map is gone through.
-/
import Derived.Test.YtkkoihhkfophnaaDoorNa9
namespace Go.Proofs.YtkkoihhkfophnaaDoor
open Go.RowKit
set_option linter.unusedVariables false
set_option linter.unusedSimpArgs false
set_option maxRecDepth 100000
theorem Na.Rng.alloc {B R cnt : Nat} {T : List (Na.M × ByteArray)} {s : ByteArray} {w : World} (h : Na.Rng B R cnt T s w) (o : Obj) : Na.Rng B R cnt T s (w.alloc o) := h.kept (World.grownBy_alloc w o none) (by simp) (by simp)
set_option maxHeartbeats 1000000 in
set_option maxRecDepth 100000 in
theorem Na.of_any (s : ByteArray) {w : World} (hC : Na.Conds w) : Calls Tryd.prog 12 #[.string s] w fun e w' => e = .returned (Na.ofV (Na.of (L.bs s))) ∧ Below w.heap.size w w' := by
  obtain ⟨q, hq⟩ : ∃ q, q = Na.of (L.bs s) := ⟨_, rfl⟩
  rw [← hq]
  replace hq := Lib.hid hq
  have C := Lib.hid (Na.mnemonics_any hC)
  clear hC
  go_enter Tryd.func12, Tryd.ntmps12
  go_wp2_with (fail)
  refine C.out.mono ?_; rintro e w2 ⟨B, n, rfl, hT, hB⟩
  clear C
  obtain ⟨w3, hr, ⟨cnt, hR⟩, hg, hsz⟩ := hT.range s
  have hB3 := Lib.hid (show Below w.heap.size w w3 from hB.grown hg hB.size (fun k e => by cases e))
  have hne : w.heap.size ≤ w2.heap.size := hB.size
  clear hT hB hg
  generalize w2.heap.size = R at *
  replace hR := Lib.hid hR
  go_wp2
  clear hr hsz
  go_loopw [6, 7] (fun _ _ wr => (∃ cnt, Na.Rng B R cnt Na.full s wr) ∧ Below w.heap.size w wr) (fun _ _ wr => wr.rangeLeft B R)
  case atStart => exact ⟨⟨_, hR.out⟩, hB3.out⟩
  case round =>
    clear hR hB3
    obtain ⟨⟨cnt, hR⟩, hB⟩ := hrel
    replace hB := Lib.hid hB
    rcases hR.next 0 with ⟨hmiss, hrun⟩ | ⟨⟨k, o, u⟩, s', w', cnt', hwf, hlook, hrun, hR', hlt, hg, hsz, hen⟩
    · have R1 := Lib.hid (show q = none by rw [hq.out]; exact Na.of_miss hmiss)
      clear hR hmiss hq
      go_wp2
      (try simp only [Exit.inBlock, Exit.then])
      refine bodyPost_ret (results_tmp4 rfl _ _ _) rfl ?_
      exact ⟨by rw [R1.out]; rfl, hB.out⟩
    · have hB2 := Lib.hid (hB.out.grown hg hB.out.size (fun j e => by cases e; exact hne))
      unfold Na.kv at hrun hen
      simp only [] at hrun hen
      have hlt2 := Lib.hid hlt
      clear hlt hg hsz hwf
      have hB4 := Lib.hid (Bel.trans hB2.out (Lib.hid (((Kept.refl w').alloc #[.int .i64 k, .int .i64 o, .bool u] 45).below)).out)
      by_cases c : s' = s
      · subst c
        have R1 := Lib.hid (show q = some (k, o, u) by rw [hq.out]; exact Na.of_hit hlook)
        have e : (s'.toList == s'.toList) = true := by simp
        clear hR hR' hq hlook hlt2 hB hB2
        go_wp2
        go_quiet (fail)
        go_wp2
        (try simp only [Exit.inBlock, Exit.then])
        refine bodyPost_ret (results_tmp4 rfl _ _ _) rfl ?_
        exact ⟨by rw [R1.out]; rfl, Bel.drewN hB4.out nq⟩
      · have e : (s'.toList == s.toList) = false := by rw [Na.list_eq]; exact decide_eq_false (fun q => c (Na.bs_inj q))
        have R2 := Lib.hid ((hR' c).alloc (.cells #[.int .i64 k, .int .i64 o, .bool u] 45))
        have R3 := Lib.hid (show (w'.alloc (.cells #[.int .i64 k, .int .i64 o, .bool u] 45)).rangeLeft B R < wr.rangeLeft B R by rw [R2.out.left, ← (hR' c).left]; exact hlt2.out)
        clear hR hR' hlook hlt2 hB hB2 c
        go_wp2
        refine ⟨⟨⟨_, R2.out⟩, hB4.out⟩, R3.out⟩
end Go.Proofs.YtkkoihhkfophnaaDoor
