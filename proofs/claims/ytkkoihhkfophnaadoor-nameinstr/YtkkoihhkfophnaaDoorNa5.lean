/-
  The contracts of the document's three, Mnemonic and Of.
-/
import Derived.Test.YtkkoihhkfophnaaDoorNa4
import Derived.Test.YtkkoihhkfophnaaDoorNaT
namespace Go.Proofs.YtkkoihhkfophnaaDoor
open Go.RowKit
set_option linter.unusedVariables false
set_option linter.unusedSimpArgs false
set_option maxRecDepth 100000
def Na.ms (k o : Int) (u : Bool) : ByteArray := strOfNums (Na.mn k o u)
theorem Na.ms_of {k o : Int} {u : Bool} {s : ByteArray} (h : Na.mn k o u = L.bs s) : Na.ms k o u = s := by unfold Na.ms; rw [h, L.str_bs]
set_option maxRecDepth 100000 in
theorem Na.three_any (s : ByteArray) (n : Nat) (h : 3 * n + 3 ≤ s.size) (hs : s.size ≤ 1000) (w : World) : Calls Tryd.prog 28 #[.string s, .int .i64 n] w fun e w' => e = .returned (.string (s.extract (3 * n) (3 * n + 3))) ∧ w = w' := by
  have h1 : 3 * (n : Int) + 3 ≤ (s.size : Int) := by omega
  have h2 : (s.size : Int) ≤ 1000 := by omega
  have e1 : (3 * (n : Int)).toNat = 3 * n := by omega
  have e2 : (3 * (n : Int) + 3).toNat = 3 * n + 3 := by omega
  rw [show s.extract (3 * n) (3 * n + 3) = s.extract (3 * (n : Int)).toNat (3 * (n : Int) + 3).toNat by rw [e1, e2]]
  clear e1 e2
  go_enter Tryd.func28, Tryd.ntmps28
  go_wp2
  go_ret
  exact ⟨rfl, rfl⟩
def Na.condS : ByteArray := ⟨#[77, 73, 69, 81, 67, 83, 86, 83, 76, 83, 76, 84, 76, 69, 32, 32, 80, 76, 78, 69, 67, 67, 86, 67, 72, 73, 71, 69, 71, 84, 78, 86]⟩
def Na.opS : ByteArray := ⟨#[77, 79, 86, 76, 83, 76, 65, 83, 82, 82, 79, 82, 65, 78, 68, 65, 78, 78, 73, 79, 82, 88, 79, 82, 65, 68, 68, 83, 85, 66, 77, 85, 76, 68, 73, 86]⟩
def Na.memS : ByteArray := ⟨#[76, 68, 87, 76, 68, 66, 83, 84, 87, 83, 84, 66]⟩
theorem Na.ne_eq {a b : Int} (h : ¬ a = b) : (a == b) = false ∧ (a != b) = true := by simpa using h
set_option maxHeartbeats 1000000 in
set_option maxRecDepth 100000 in
theorem Na.rmn_j7f  (w : World) : Calls Tryd.prog 17 #[.int .i64 7, .int .i64 7, .bool false] w fun e w' => e = .returned (.string ⟨#[66]⟩) ∧ w = w' := by
  go_enter Tryd.func17, Tryd.ntmps17
  go_wp2
  go_ret
  exact ⟨rfl, rfl⟩
set_option maxHeartbeats 1000000 in
set_option maxRecDepth 100000 in
theorem Na.rmn_jf (o : Int) (h0 : 0 ≤ o) (h1 : o ≤ 15) (h : ¬ o = 7) (w : World) : Calls Tryd.prog 17 #[.int .i64 7, .int .i64 o, .bool false] w fun e w' => e = .returned (.string (⟨#[66]⟩ ++ Na.condS.extract (2 * o).toNat (2 * o + 2).toNat)) ∧ w = w' := by
  have e7 : (o == 7) = false := (Na.ne_eq h).1
  have hz : ¬ 9223372036854775807 < 1 + (min (2 * o + 2).toNat 32 - (2 * o).toNat) := by omega
  go_enter Tryd.func17, Tryd.ntmps17
  go_wp2
  go_ret
  exact ⟨rfl, rfl⟩
set_option maxHeartbeats 1000000 in
set_option maxRecDepth 100000 in
theorem Na.rmn_jlf (o : Int) (h : o < 0) (w : World) : Calls Tryd.prog 17 #[.int .i64 7, .int .i64 o, .bool false] w fun e w' => e = .returned (.string ⟨#[]⟩) ∧ w = w' := by
  obtain ⟨eo0, fo0⟩ := Na.ne_eq (show ¬ o = 0 by omega)
  go_enter Tryd.func17, Tryd.ntmps17
  go_wp2
  go_ret
  exact ⟨rfl, rfl⟩
set_option maxHeartbeats 1000000 in
set_option maxRecDepth 100000 in
theorem Na.rmn_jhf (o : Int) (h : 15 < o) (w : World) : Calls Tryd.prog 17 #[.int .i64 7, .int .i64 o, .bool false] w fun e w' => e = .returned (.string ⟨#[]⟩) ∧ w = w' := by
  obtain ⟨eo0, fo0⟩ := Na.ne_eq (show ¬ o = 0 by omega)
  go_enter Tryd.func17, Tryd.ntmps17
  go_wp2
  go_ret
  exact ⟨rfl, rfl⟩
set_option maxHeartbeats 1000000 in
set_option maxRecDepth 100000 in
theorem Na.rmn_j7t  (w : World) : Calls Tryd.prog 17 #[.int .i64 7, .int .i64 7, .bool true] w fun e w' => e = .returned (.string ⟨#[66, 76]⟩) ∧ w = w' := by
  go_enter Tryd.func17, Tryd.ntmps17
  go_wp2
  go_ret
  exact ⟨rfl, rfl⟩
set_option maxHeartbeats 1000000 in
set_option maxRecDepth 100000 in
theorem Na.rmn_jt (o : Int) (h0 : 0 ≤ o) (h1 : o ≤ 15) (h : ¬ o = 7) (w : World) : Calls Tryd.prog 17 #[.int .i64 7, .int .i64 o, .bool true] w fun e w' => e = .returned (.string (⟨#[66, 76]⟩ ++ Na.condS.extract (2 * o).toNat (2 * o + 2).toNat)) ∧ w = w' := by
  have e7 : (o == 7) = false := (Na.ne_eq h).1
  have hz : ¬ 9223372036854775807 < 2 + (min (2 * o + 2).toNat 32 - (2 * o).toNat) := by omega
  go_enter Tryd.func17, Tryd.ntmps17
  go_wp2
  go_ret
  exact ⟨rfl, rfl⟩
set_option maxHeartbeats 1000000 in
set_option maxRecDepth 100000 in
theorem Na.rmn_jlt (o : Int) (h : o < 0) (w : World) : Calls Tryd.prog 17 #[.int .i64 7, .int .i64 o, .bool true] w fun e w' => e = .returned (.string ⟨#[]⟩) ∧ w = w' := by
  obtain ⟨eo0, fo0⟩ := Na.ne_eq (show ¬ o = 0 by omega)
  go_enter Tryd.func17, Tryd.ntmps17
  go_wp2
  go_ret
  exact ⟨rfl, rfl⟩
set_option maxHeartbeats 1000000 in
set_option maxRecDepth 100000 in
theorem Na.rmn_jht (o : Int) (h : 15 < o) (w : World) : Calls Tryd.prog 17 #[.int .i64 7, .int .i64 o, .bool true] w fun e w' => e = .returned (.string ⟨#[]⟩) ∧ w = w' := by
  obtain ⟨eo0, fo0⟩ := Na.ne_eq (show ¬ o = 0 by omega)
  go_enter Tryd.func17, Tryd.ntmps17
  go_wp2
  go_ret
  exact ⟨rfl, rfl⟩
set_option maxHeartbeats 1000000 in
set_option maxRecDepth 100000 in
theorem Na.rmn_u0  (w : World) : Calls Tryd.prog 17 #[.int .i64 1, .int .i64 0, .bool true] w fun e w' => e = .returned (.string ⟨#[77, 79, 86, 85]⟩) ∧ w = w' := by
  go_enter Tryd.func17, Tryd.ntmps17
  go_wp2
  go_ret
  exact ⟨rfl, rfl⟩
set_option maxHeartbeats 1000000 in
set_option maxRecDepth 100000 in
theorem Na.rmn_u8  (w : World) : Calls Tryd.prog 17 #[.int .i64 1, .int .i64 8, .bool true] w fun e w' => e = .returned (.string ⟨#[65, 68, 67]⟩) ∧ w = w' := by
  go_enter Tryd.func17, Tryd.ntmps17
  go_wp2
  go_ret
  exact ⟨rfl, rfl⟩
set_option maxHeartbeats 1000000 in
set_option maxRecDepth 100000 in
theorem Na.rmn_u9  (w : World) : Calls Tryd.prog 17 #[.int .i64 1, .int .i64 9, .bool true] w fun e w' => e = .returned (.string ⟨#[83, 66, 67]⟩) ∧ w = w' := by
  go_enter Tryd.func17, Tryd.ntmps17
  go_wp2
  go_ret
  exact ⟨rfl, rfl⟩
set_option maxHeartbeats 1000000 in
set_option maxRecDepth 100000 in
theorem Na.rmn_u10  (w : World) : Calls Tryd.prog 17 #[.int .i64 1, .int .i64 10, .bool true] w fun e w' => e = .returned (.string ⟨#[77, 76, 85]⟩) ∧ w = w' := by
  go_enter Tryd.func17, Tryd.ntmps17
  go_wp2
  go_ret
  exact ⟨rfl, rfl⟩
set_option maxHeartbeats 1000000 in
set_option maxRecDepth 100000 in
theorem Na.rmn_u (o : Int) (h : ¬ o = 0 ∧ ¬ o = 8 ∧ ¬ o = 9 ∧ ¬ o = 10) (w : World) : Calls Tryd.prog 17 #[.int .i64 1, .int .i64 o, .bool true] w fun e w' => e = .returned (.string ⟨#[]⟩) ∧ w = w' := by
  obtain ⟨eo0, fo0⟩ := Na.ne_eq (show ¬ o = 0 by omega)
  obtain ⟨eo8, fo8⟩ := Na.ne_eq (show ¬ o = 8 by omega)
  obtain ⟨eo9, fo9⟩ := Na.ne_eq (show ¬ o = 9 by omega)
  obtain ⟨eo10, fo10⟩ := Na.ne_eq (show ¬ o = 10 by omega)
  go_enter Tryd.func17, Tryd.ntmps17
  go_wp2
  go_ret
  exact ⟨rfl, rfl⟩
set_option maxHeartbeats 1000000 in
set_option maxRecDepth 100000 in
theorem Na.rmn_r (n : Nat) (h : n < 12) (w : World) : Calls Tryd.prog 17 #[.int .i64 1, .int .i64 n, .bool false] w fun e w' => e = .returned (.string (Na.opS.extract (3 * n) (3 * n + 3))) ∧ w = w' := by
  have h1 : (n : Int) ≤ 11 := by omega
  have C := Lib.hid (Na.three_any Na.opS n (by show _ ≤ 36; omega) (by decide) w)
  go_enter Tryd.func17, Tryd.ntmps17
  go_wp2_with (fail)
  refine C.out.mono ?_; rintro e w2 ⟨rfl, rfl⟩
  go_wp2
  go_ret
  exact ⟨rfl, rfl⟩
set_option maxHeartbeats 1000000 in
set_option maxRecDepth 100000 in
theorem Na.rmn_rl (o : Int) (h : o < 0) (w : World) : Calls Tryd.prog 17 #[.int .i64 1, .int .i64 o, .bool false] w fun e w' => e = .returned (.string ⟨#[]⟩) ∧ w = w' := by
  obtain ⟨eo0, fo0⟩ := Na.ne_eq (show ¬ o = 0 by omega)
  go_enter Tryd.func17, Tryd.ntmps17
  go_wp2
  go_ret
  exact ⟨rfl, rfl⟩
set_option maxHeartbeats 1000000 in
set_option maxRecDepth 100000 in
theorem Na.rmn_rh (o : Int) (h : 11 < o) (w : World) : Calls Tryd.prog 17 #[.int .i64 1, .int .i64 o, .bool false] w fun e w' => e = .returned (.string ⟨#[]⟩) ∧ w = w' := by
  obtain ⟨eo0, fo0⟩ := Na.ne_eq (show ¬ o = 0 by omega)
  have h1 : ¬ o ≤ 11 := by omega
  go_enter Tryd.func17, Tryd.ntmps17
  go_wp2
  go_ret
  exact ⟨rfl, rfl⟩
set_option maxHeartbeats 1000000 in
set_option maxRecDepth 100000 in
theorem Na.rmn_m (n : Nat) (h : n < 4) (w : World) : Calls Tryd.prog 17 #[.int .i64 5, .int .i64 n, .bool false] w fun e w' => e = .returned (.string (Na.memS.extract (3 * n) (3 * n + 3))) ∧ w = w' := by
  have h1 : (n : Int) ≤ 3 := by omega
  have C := Lib.hid (Na.three_any Na.memS n (by show _ ≤ 12; omega) (by decide) w)
  go_enter Tryd.func17, Tryd.ntmps17
  go_wp2_with (fail)
  refine C.out.mono ?_; rintro e w2 ⟨rfl, rfl⟩
  go_wp2
  go_ret
  exact ⟨rfl, rfl⟩
set_option maxHeartbeats 1000000 in
set_option maxRecDepth 100000 in
theorem Na.rmn_ml (o : Int) (h : o < 0) (w : World) : Calls Tryd.prog 17 #[.int .i64 5, .int .i64 o, .bool false] w fun e w' => e = .returned (.string ⟨#[]⟩) ∧ w = w' := by
  obtain ⟨eo0, fo0⟩ := Na.ne_eq (show ¬ o = 0 by omega)
  go_enter Tryd.func17, Tryd.ntmps17
  go_wp2
  go_ret
  exact ⟨rfl, rfl⟩
set_option maxHeartbeats 1000000 in
set_option maxRecDepth 100000 in
theorem Na.rmn_mh (o : Int) (h : 3 < o) (w : World) : Calls Tryd.prog 17 #[.int .i64 5, .int .i64 o, .bool false] w fun e w' => e = .returned (.string ⟨#[]⟩) ∧ w = w' := by
  obtain ⟨eo0, fo0⟩ := Na.ne_eq (show ¬ o = 0 by omega)
  have h1 : ¬ o ≤ 3 := by omega
  go_enter Tryd.func17, Tryd.ntmps17
  go_wp2
  go_ret
  exact ⟨rfl, rfl⟩
set_option maxHeartbeats 1000000 in
set_option maxRecDepth 100000 in
theorem Na.rmn_mu (o : Int) (w : World) : Calls Tryd.prog 17 #[.int .i64 5, .int .i64 o, .bool true] w fun e w' => e = .returned (.string ⟨#[]⟩) ∧ w = w' := by
  go_enter Tryd.func17, Tryd.ntmps17
  go_wp2
  go_ret
  exact ⟨rfl, rfl⟩
set_option maxHeartbeats 1000000 in
set_option maxRecDepth 100000 in
theorem Na.rmn_ou (k o : Int) (h : ¬ k = 7 ∧ ¬ k = 1 ∧ ¬ k = 5) (w : World) : Calls Tryd.prog 17 #[.int .i64 k, .int .i64 o, .bool true] w fun e w' => e = .returned (.string ⟨#[]⟩) ∧ w = w' := by
  obtain ⟨ek7, fk7⟩ := Na.ne_eq (show ¬ k = 7 by omega)
  obtain ⟨ek1, fk1⟩ := Na.ne_eq (show ¬ k = 1 by omega)
  obtain ⟨ek5, fk5⟩ := Na.ne_eq (show ¬ k = 5 by omega)
  go_enter Tryd.func17, Tryd.ntmps17
  go_wp2
  go_ret
  exact ⟨rfl, rfl⟩
set_option maxHeartbeats 1000000 in
set_option maxRecDepth 100000 in
theorem Na.rmn_on (k o : Int) (h : ¬ k = 7 ∧ ¬ k = 1 ∧ ¬ k = 5) (h0 : ¬ o = 0) (w : World) : Calls Tryd.prog 17 #[.int .i64 k, .int .i64 o, .bool false] w fun e w' => e = .returned (.string ⟨#[]⟩) ∧ w = w' := by
  obtain ⟨ek7, fk7⟩ := Na.ne_eq (show ¬ k = 7 by omega)
  obtain ⟨ek1, fk1⟩ := Na.ne_eq (show ¬ k = 1 by omega)
  obtain ⟨ek5, fk5⟩ := Na.ne_eq (show ¬ k = 5 by omega)
  obtain ⟨eo0, fo0⟩ := Na.ne_eq (show ¬ o = 0 by omega)
  go_enter Tryd.func17, Tryd.ntmps17
  go_wp2
  go_ret
  exact ⟨rfl, rfl⟩
set_option maxHeartbeats 1000000 in
set_option maxRecDepth 100000 in
theorem Na.rmn_k3  (w : World) : Calls Tryd.prog 17 #[.int .i64 3, .int .i64 0, .bool false] w fun e w' => e = .returned (.string ⟨#[77, 79, 86, 72]⟩) ∧ w = w' := by
  go_enter Tryd.func17, Tryd.ntmps17
  go_wp2
  go_ret
  exact ⟨rfl, rfl⟩
set_option maxHeartbeats 1000000 in
set_option maxRecDepth 100000 in
theorem Na.rmn_k4  (w : World) : Calls Tryd.prog 17 #[.int .i64 4, .int .i64 0, .bool false] w fun e w' => e = .returned (.string ⟨#[77, 79, 86, 70]⟩) ∧ w = w' := by
  go_enter Tryd.func17, Tryd.ntmps17
  go_wp2
  go_ret
  exact ⟨rfl, rfl⟩
set_option maxHeartbeats 1000000 in
set_option maxRecDepth 100000 in
theorem Na.rmn_k8  (w : World) : Calls Tryd.prog 17 #[.int .i64 8, .int .i64 0, .bool false] w fun e w' => e = .returned (.string ⟨#[76, 68, 76]⟩) ∧ w = w' := by
  go_enter Tryd.func17, Tryd.ntmps17
  go_wp2
  go_ret
  exact ⟨rfl, rfl⟩
set_option maxHeartbeats 1000000 in
set_option maxRecDepth 100000 in
theorem Na.rmn_k9  (w : World) : Calls Tryd.prog 17 #[.int .i64 9, .int .i64 0, .bool false] w fun e w' => e = .returned (.string ⟨#[119, 111, 114, 100]⟩) ∧ w = w' := by
  go_enter Tryd.func17, Tryd.ntmps17
  go_wp2
  go_ret
  exact ⟨rfl, rfl⟩
set_option maxHeartbeats 1000000 in
set_option maxRecDepth 100000 in
theorem Na.rmn_k10  (w : World) : Calls Tryd.prog 17 #[.int .i64 10, .int .i64 0, .bool false] w fun e w' => e = .returned (.string ⟨#[101, 120, 112, 111, 114, 116]⟩) ∧ w = w' := by
  go_enter Tryd.func17, Tryd.ntmps17
  go_wp2
  go_ret
  exact ⟨rfl, rfl⟩
set_option maxHeartbeats 1000000 in
set_option maxRecDepth 100000 in
theorem Na.rmn_oz (k : Int) (h : ¬ k = 7 ∧ ¬ k = 1 ∧ ¬ k = 5) (h3 : ¬ k = 3 ∧ ¬ k = 4 ∧ ¬ k = 8 ∧ ¬ k = 9 ∧ ¬ k = 10) (w : World) : Calls Tryd.prog 17 #[.int .i64 k, .int .i64 0, .bool false] w fun e w' => e = .returned (.string ⟨#[]⟩) ∧ w = w' := by
  obtain ⟨ek7, fk7⟩ := Na.ne_eq (show ¬ k = 7 by omega)
  obtain ⟨ek1, fk1⟩ := Na.ne_eq (show ¬ k = 1 by omega)
  obtain ⟨ek5, fk5⟩ := Na.ne_eq (show ¬ k = 5 by omega)
  obtain ⟨ek3, fk3⟩ := Na.ne_eq (show ¬ k = 3 by omega)
  obtain ⟨ek4, fk4⟩ := Na.ne_eq (show ¬ k = 4 by omega)
  obtain ⟨ek8, fk8⟩ := Na.ne_eq (show ¬ k = 8 by omega)
  obtain ⟨ek9, fk9⟩ := Na.ne_eq (show ¬ k = 9 by omega)
  obtain ⟨ek10, fk10⟩ := Na.ne_eq (show ¬ k = 10 by omega)
  go_enter Tryd.func17, Tryd.ntmps17
  go_wp2
  go_ret
  exact ⟨rfl, rfl⟩
theorem Na.cond_cut : ∀ n : Nat, n < 16 → L.bs (Na.condS.extract (2 * n) (2 * n + 2)) = (Na.conds.drop (2 * n)).take 2 := by decide +kernel
theorem Na.op_cut : ∀ n : Nat, n < 12 → L.bs (Na.opS.extract (3 * n) (3 * n + 3)) = (Na.ops.drop (3 * n)).take 3 := by decide +kernel
theorem Na.mem_cut : ∀ n : Nat, n < 4 → L.bs (Na.memS.extract (3 * n) (3 * n + 3)) = (Na.mems.drop (3 * n)).take 3 := by decide +kernel
/-- what has no mnemonic -/
theorem Na.mn_nil {k o : Int} {u : Bool} (h : ¬ (k = 7 ∧ 0 ≤ o ∧ o ≤ 15)) (h1 : ¬ (k = 1 ∧ u = true ∧ (o = 0 ∨ o = 8 ∨ o = 9 ∨ o = 10))) (h2 : u = true ∨ (¬ (k = 1 ∧ 0 ≤ o ∧ o ≤ 11) ∧ ¬ (k = 5 ∧ 0 ≤ o ∧ o ≤ 3) ∧ (¬ o = 0 ∨ (¬ k = 3 ∧ ¬ k = 4 ∧ ¬ k = 8 ∧ ¬ k = 9 ∧ ¬ k = 10)))) : Na.mn k o u = [] := by
  unfold Na.mn
  rw [if_neg h, if_neg (fun q => h1 ⟨q.1, q.2.1, Or.inl q.2.2⟩), if_neg (fun q => h1 ⟨q.1, q.2.1, Or.inr (Or.inl q.2.2)⟩), if_neg (fun q => h1 ⟨q.1, q.2.1, Or.inr (Or.inr (Or.inl q.2.2))⟩), if_neg (fun q => h1 ⟨q.1, q.2.1, Or.inr (Or.inr (Or.inr q.2.2))⟩)]
  cases u with
  | true => rw [if_pos rfl]
  | false =>
    rcases h2 with h2 | ⟨h2, h3, h4⟩
    · cases h2
    · rw [if_neg (by simp), if_neg h2, if_neg h3]
      rcases h4 with h4 | ⟨g1, g2, g3, g4, g5⟩
      · rw [if_pos h4]
      · rw [if_neg g1, if_neg g2, if_neg g3, if_neg g4, if_neg g5]
        split <;> rfl
set_option maxHeartbeats 1000000 in
theorem Na.rmn_any (k o : Int) (u : Bool) (w : World) : Calls Tryd.prog 17 #[.int .i64 k, .int .i64 o, .bool u] w fun e w' => e = .returned (.string (Na.ms k o u)) ∧ w = w' := by
  have nil : ∀ {k o : Int} {u : Bool}, Na.mn k o u = [] → Na.ms k o u = ⟨#[]⟩ := fun h => Na.ms_of (by rw [h]; rfl)
  by_cases k7 : k = 7
  · subst k7
    by_cases h0 : o < 0
    · rw [nil (Na.mn_nil (by omega) (by omega) (by cases u <;> simp <;> omega))]
      cases u
      · exact Na.rmn_jlf o h0 w
      · exact Na.rmn_jlt o h0 w
    by_cases h1 : 15 < o
    · rw [nil (Na.mn_nil (by omega) (by omega) (by cases u <;> simp <;> omega))]
      cases u
      · exact Na.rmn_jhf o h1 w
      · exact Na.rmn_jht o h1 w
    by_cases h7 : o = 7
    · subst h7
      cases u
      · exact Na.rmn_j7f w
      · exact Na.rmn_j7t w
    · obtain ⟨n, rfl⟩ := Int.eq_ofNat_of_zero_le (show 0 ≤ o by omega)
      have hc := Na.cond_cut n (by omega)
      have e1 : (2 * (n : Int)).toNat = 2 * n := by omega
      have e2 : (2 * (n : Int) + 2).toNat = 2 * n + 2 := by omega
      cases u
      · have e : Na.ms 7 n false = ⟨#[66]⟩ ++ Na.condS.extract (2 * (n : Int)).toNat (2 * (n : Int) + 2).toNat := by
          refine Na.ms_of ?_
          unfold Na.mn
          rw [if_pos (by omega), if_neg h7, L.bs_append, e1, e2, hc, Int.toNat_natCast]
          rfl
        rw [e]
        exact Na.rmn_jf n (by omega) (by omega) h7 w
      · have e : Na.ms 7 n true = ⟨#[66, 76]⟩ ++ Na.condS.extract (2 * (n : Int)).toNat (2 * (n : Int) + 2).toNat := by
          refine Na.ms_of ?_
          unfold Na.mn
          rw [if_pos (by omega), if_neg h7, L.bs_append, e1, e2, hc, Int.toNat_natCast]
          rfl
        rw [e]
        exact Na.rmn_jt n (by omega) (by omega) h7 w
  by_cases k1 : k = 1
  · subst k1
    cases u with
    | true =>
      by_cases h0 : o = 0
      · subst h0; exact Na.rmn_u0 w
      by_cases h8 : o = 8
      · subst h8; exact Na.rmn_u8 w
      by_cases h9 : o = 9
      · subst h9; exact Na.rmn_u9 w
      by_cases h10 : o = 10
      · subst h10; exact Na.rmn_u10 w
      rw [nil (Na.mn_nil (by omega) (by omega) (Or.inl rfl))]
      exact Na.rmn_u o ⟨h0, h8, h9, h10⟩ w
    | false =>
      by_cases h0 : o < 0
      · rw [nil (Na.mn_nil (by omega) (by simp) (Or.inr ⟨by omega, by omega, by omega⟩))]
        exact Na.rmn_rl o h0 w
      by_cases h1 : 11 < o
      · rw [nil (Na.mn_nil (by omega) (by simp) (Or.inr ⟨by omega, by omega, by omega⟩))]
        exact Na.rmn_rh o h1 w
      obtain ⟨n, rfl⟩ := Int.eq_ofNat_of_zero_le (show 0 ≤ o by omega)
      have e : Na.ms 1 n false = Na.opS.extract (3 * n) (3 * n + 3) := by
        refine Na.ms_of ?_
        rw [Na.op_cut n (by omega)]
        unfold Na.mn
        rw [if_neg (by omega), if_neg (by simp), if_neg (by simp), if_neg (by simp), if_neg (by simp), if_neg (by simp), if_pos (by omega), Int.toNat_natCast]
      rw [e]
      exact Na.rmn_r n (by omega) w
  by_cases k5 : k = 5
  · subst k5
    cases u with
    | true =>
      rw [nil (Na.mn_nil (by omega) (by omega) (Or.inl rfl))]
      exact Na.rmn_mu o w
    | false =>
      by_cases h0 : o < 0
      · rw [nil (Na.mn_nil (by omega) (by simp) (Or.inr ⟨by omega, by omega, by omega⟩))]
        exact Na.rmn_ml o h0 w
      by_cases h1 : 3 < o
      · rw [nil (Na.mn_nil (by omega) (by simp) (Or.inr ⟨by omega, by omega, by omega⟩))]
        exact Na.rmn_mh o h1 w
      obtain ⟨n, rfl⟩ := Int.eq_ofNat_of_zero_le (show 0 ≤ o by omega)
      have e : Na.ms 5 n false = Na.memS.extract (3 * n) (3 * n + 3) := by
        refine Na.ms_of ?_
        rw [Na.mem_cut n (by omega)]
        unfold Na.mn
        rw [if_neg (by omega), if_neg (by simp), if_neg (by simp), if_neg (by simp), if_neg (by simp), if_neg (by simp), if_neg (by omega), if_pos (by omega), Int.toNat_natCast]
      rw [e]
      exact Na.rmn_m n (by omega) w
  cases u with
  | true =>
    rw [nil (Na.mn_nil (by omega) (by omega) (Or.inl rfl))]
    exact Na.rmn_ou k o ⟨k7, k1, k5⟩ w
  | false =>
    by_cases h0 : o = 0
    · subst h0
      by_cases h3 : k = 3
      · subst h3; exact Na.rmn_k3 w
      by_cases h4 : k = 4
      · subst h4; exact Na.rmn_k4 w
      by_cases h8 : k = 8
      · subst h8; exact Na.rmn_k8 w
      by_cases h9 : k = 9
      · subst h9; exact Na.rmn_k9 w
      by_cases h10 : k = 10
      · subst h10; exact Na.rmn_k10 w
      rw [nil (Na.mn_nil (by omega) (by simp) (Or.inr ⟨by omega, by omega, Or.inr ⟨h3, h4, h8, h9, h10⟩⟩))]
      exact Na.rmn_oz k ⟨k7, k1, k5⟩ ⟨h3, h4, h8, h9, h10⟩ w
    · rw [nil (Na.mn_nil (by omega) (by simp) (Or.inr ⟨by omega, by omega, Or.inl h0⟩))]
      exact Na.rmn_on k o ⟨k7, k1, k5⟩ h0 w
end Go.Proofs.YtkkoihhkfophnaaDoor
