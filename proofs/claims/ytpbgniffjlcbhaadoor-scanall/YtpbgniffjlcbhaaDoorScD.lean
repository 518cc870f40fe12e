/-
  ScanAll, walked.
-/
import Derived.Test.YtpbgniffjlcbhaaDoorScC
namespace Go.Proofs.YtpbgniffjlcbhaaDoor
open Go.RowKit
set_option linter.unusedVariables false
set_option linter.unusedSimpArgs false
set_option maxRecDepth 100000
theorem Bu.short_byt {ys : List Sc.Tk} (hb : ∀ y ∈ ys, L.Byt y.t) (k : Nat) : ∀ y ∈ Bu.short ys k, L.Byt y.t := fun y hy => by
  obtain ⟨z, hz, rfl⟩ := List.mem_map.1 hy
  exact fun x hx => hb z (List.mem_of_mem_take hz) x (List.mem_of_mem_take hx)
theorem Bu.short_len (ys : List Sc.Tk) (k : Nat) : ∀ y ∈ Bu.short ys k, y.t.length ≤ 20 := fun y hy => by
  obtain ⟨z, hz, rfl⟩ := List.mem_map.1 hy
  show (z.t.take 20).length ≤ 20
  rw [List.length_take]; omega
theorem Bu.short_size (ys : List Sc.Tk) (k : Nat) : (Bu.short ys k).length ≤ k := by
  unfold Bu.short
  rw [List.length_map, List.length_take]; omega
set_option maxHeartbeats 8000000 in
set_option maxRecDepth 100000 in
theorem walk_all (W : World) (s : ByteArray) (hs : s.size ≤ maxLen) (hE : Sc.Errs W) {A : Option Addr} {n c : Nat} {ys : List Sc.Tk} (h : Tr W A n c ys) (hb : ∀ y ∈ ys, L.Byt y.t) (hsz : ∀ y ∈ ys, y.t.length ≤ 9223372036854775807) :
    Calls Tryd.prog 3 #[.string s, .slice A n c] W fun e w' => e = .returned (.bool true) ∧ Below W.heap.size W w' := by
  have z1 := Bu.cut_size s
  have T := Lib.hid h
  obtain ⟨k, hk⟩ : ∃ k, min n 30 = k := ⟨_, rfl⟩
  have hk30 : k ≤ 30 := by omega
  have hjl := Sc.join_len (Bu.short_len ys k)
  have hss := Bu.short_size ys k
  have hj2 : (Sc.join (Bu.short ys k)).length ≤ 1000000 := by
    have : (Bu.short ys k).length * (20 + 2) ≤ 30 * 22 := Nat.mul_le_mul (by omega) (by decide)
    omega
  have hsb := Bu.short_byt hb k
  have CS := Lib.hid (fun v (h : Tr v A n c ys) => Bu.short_any h hb hsz)
  rw [hk] at CS
  have main : ∀ (R : Except Int (List Sc.Tk)), Sc.line (L.bs (Bu.cut s)) = R → Calls Tryd.prog 3 #[.string s, .slice A n c] W fun e w' => e = .returned (.bool true) ∧ Below W.heap.size W w' := by
    intro R hl
    clear hjl hss
    have hbl : ∀ l, R = .ok l → ∀ y ∈ l, L.Byt y.t := fun l e y hy => Sc.ok_byt (Sc.line_ok (hl.trans e) y hy)
    replace hbl := Lib.hid hbl
    go_enter Tryd.func3, Tryd.ntmps3
    go_wp2_with (fail)
    refine (Bu.shown_any W hE).mono ?_; rintro e' w1 ⟨rfl, hB⟩
    have hE1 := Lib.hid (hE.below hB)
    replace hB := Lib.hid hB
    go_wp2_with (fail)
    refine (Bu.few_any s hs _).mono ?_; rintro e' w2 ⟨rfl, rfl⟩
    go_wp2_with (fail)
    refine (Sc.line_any (Bu.cut s) (by omega) w1 hE1.out).mono ?_; rintro e' w2 ⟨v, rfl, hR, hB2⟩
    rw [hl] at hR
    replace hB := Lib.hid (hB.out.trans (hB2.mono hB.out.size))
    clear hB2 hE1
    cases R with
    | error x =>
      obtain rfl := Bu.errR hR
      clear hR
      go_wp2_with (fail)
      refine (Bu.few_any s hs _).mono ?_; rintro e' w3 ⟨rfl, rfl⟩
      go_wp2_with (fail)
      refine (Sc.rline_any (Bu.cut s) (by omega) w2).mono ?_; rintro e' w3 ⟨v, rfl, hR, hB2⟩
      rw [hl] at hR
      obtain rfl := Bu.errR hR
      replace hB := Lib.hid (hB.out.trans (hB2.mono hB.out.size))
      clear hR hB2
      go_wp2_with (fail)
      refine (Bu.same_any (Tr.empty w3) (Tr.empty w3) (by simp) (by simp)).mono ?_; rintro e' w4 ⟨rfl, hB2⟩
      rw [show decide (([] : List Sc.Tk) = []) = true from rfl]
      replace hB := Lib.hid (hB.out.trans (hB2.mono hB.out.size))
      clear hB2
      have T4 := Lib.hid (T.out.below hB.out)
      go_wp2_with (fail)
      refine (CS.out _ T4.out).mono ?_; rintro e' w5 ⟨A3, c3, rfl, hO⟩
      have hB2 := hO.below
      have hS := Lib.hid hO.row.tr
      replace T4 := Lib.hid (T4.out.below hB2)
      replace hB := Lib.hid (hB.out.trans (hB2.mono hB.out.size))
      clear hO hB2
      go_wp2_with (fail)
      refine (Sc.join_any hS.out hsb hj2 (by omega)).mono ?_; rintro e' w6 ⟨rfl, hB2⟩
      replace T4 := Lib.hid (T4.out.below hB2)
      replace hB := Lib.hid (hB.out.trans (hB2.mono hB.out.size))
      clear hS hB2
      go_wp2_with (fail)
      refine (CS.out _ T4.out).mono ?_; rintro e' w7 ⟨A4, c4, rfl, hO⟩
      have hB2 := hO.below
      have hS := Lib.hid hO.row.tr
      replace hB := Lib.hid (hB.out.trans (hB2.mono hB.out.size))
      clear hO hB2 T4
      go_wp2_with (fail)
      refine (Bu.rjoin_any hS.out hj2 (by omega)).mono ?_; rintro e' w8 ⟨rfl, rfl⟩
      clear hS
      go_wp2
      go_ret
      exact ⟨rfl, hB.out⟩
    | ok l =>
      obtain ⟨A1, c1, rfl, hO⟩ := Bu.okR hR
      have hL := Lib.hid hO.tr
      clear hR hO
      obtain ⟨n1, hn1⟩ : ∃ n1, l.length = n1 := ⟨_, rfl⟩
      rw [hn1] at hL ⊢
      go_wp2_with (fail)
      refine (Bu.few_any s hs _).mono ?_; rintro e' w3 ⟨rfl, rfl⟩
      go_wp2_with (fail)
      refine (Sc.rline_any (Bu.cut s) (by omega) w2).mono ?_; rintro e' w3 ⟨v, rfl, hR, hB2⟩
      rw [hl] at hR
      obtain ⟨A2, c2, rfl, hO⟩ := Bu.okR hR
      have hM := Lib.hid hO.tr
      rw [hn1] at hM ⊢
      replace hL := Lib.hid (hL.out.below hB2)
      replace hB := Lib.hid (hB.out.trans (hB2.mono hB.out.size))
      clear hR hB2 hO
      go_wp2_with (fail)
      refine (Bu.same_any hL.out hM.out (hbl.out l rfl) (hbl.out l rfl)).mono ?_; rintro e' w4 ⟨rfl, hB2⟩
      rw [show decide (l = l) = true from decide_eq_true rfl]
      replace hB := Lib.hid (hB.out.trans (hB2.mono hB.out.size))
      clear hB2 hL hM
      have T4 := Lib.hid (T.out.below hB.out)
      go_wp2_with (fail)
      refine (CS.out _ T4.out).mono ?_; rintro e' w5 ⟨A3, c3, rfl, hO⟩
      have hB2 := hO.below
      have hS := Lib.hid hO.row.tr
      replace T4 := Lib.hid (T4.out.below hB2)
      replace hB := Lib.hid (hB.out.trans (hB2.mono hB.out.size))
      clear hO hB2
      go_wp2_with (fail)
      refine (Sc.join_any hS.out hsb hj2 (by omega)).mono ?_; rintro e' w6 ⟨rfl, hB2⟩
      replace T4 := Lib.hid (T4.out.below hB2)
      replace hB := Lib.hid (hB.out.trans (hB2.mono hB.out.size))
      clear hS hB2
      go_wp2_with (fail)
      refine (CS.out _ T4.out).mono ?_; rintro e' w7 ⟨A4, c4, rfl, hO⟩
      have hB2 := hO.below
      have hS := Lib.hid hO.row.tr
      replace hB := Lib.hid (hB.out.trans (hB2.mono hB.out.size))
      clear hO hB2 T4
      go_wp2_with (fail)
      refine (Bu.rjoin_any hS.out hj2 (by omega)).mono ?_; rintro e' w8 ⟨rfl, rfl⟩
      clear hS
      go_wp2
      go_ret
      exact ⟨rfl, hB.out⟩
  exact main _ rfl
end Go.Proofs.YtpbgniffjlcbhaaDoor
