/-
  The contract of Put of package file.
-/
import Derived.Test.YtmdknjfhdmigdaaFi4
import Derived.Test.YtmdknjfhdmigdaaLe6
import Derived.Test.YtmdknjfhdmigdaaCh6
namespace Go.Proofs.Ytmdknjfhdmigdaa
open Go.RowKit
set_option linter.unusedVariables false
set_option linter.unusedSimpArgs false
set_option maxRecDepth 100000
theorem Fi.one_le {y : Ob.Y} (h : Ob.Good y.1) : (Fi.one y).length ≤ 20 := by
  rw [Fi.one_len]
  have h1 := (L.name_len h).2
  have h2 := L.whole_le (L.bs y.1).length
  omega
theorem Fi.names_len : ∀ {ys : List Ob.Y}, (∀ y ∈ ys, Fi.OkY y) → (Fi.names ys).length ≤ 20 * ys.length
  | [], _ => Nat.le_refl _
  | y :: ys, h => by
    have h1 := Fi.one_le (h y List.mem_cons_self).1
    have h2 := Fi.names_len (fun z hz => h z (List.mem_cons_of_mem y hz))
    rw [show Fi.names (y :: ys) = Fi.one y ++ Fi.names ys from rfl, List.length_append, List.length_cons]
    omega
theorem Fi.Ok.at {W S : List Int} {Y : List Ob.Y} (h : Fi.Ok W S Y) {k : Nat} (hk : k < Y.length) : Fi.OkY (Ob.nm Y k, Ob.pl Y k) := by
  rw [Ob.nm_get hk, Ob.pl_get hk]
  exact h.hN _ (List.getElem_mem hk)
theorem Fi.put_no {w : World} {ws ss : List Int} {ys : List Ob.Y} (h : ¬ Ob.may ws ss ys = 0) : Fi.pB ws ss ys = [] := by unfold Fi.pB; rw [if_neg h]
theorem Fi.put_yes {w : World} {ws ss : List Int} {ys : List Ob.Y} (h : Ob.may ws ss ys = 0) : Fi.pB ws ss ys = Fi.put ws ss ys := by unfold Fi.pB; rw [if_pos h]
set_option maxHeartbeats 4000000 in
set_option maxRecDepth 100000 in
theorem Fi.put_any {w : World} {A B C : Option Addr} {n c m d k e : Nat} {ws ss : List Int} {ys : List Ob.Y} (hW : Wo w A n c ws) (hS : In w B m d ss) (hY : Sy w C k e ys) (hsz : ∀ y ∈ ys, y.1.size ≤ 1000000) :
    Calls Try.prog 10 #[.agg #[.slice A n c, .slice B m d, .slice C k e]] w fun r w' => ∃ A' n' c', r = .returned (.tuple #[.slice A' n' c', .int .i64 (Ob.may ws ss ys)]) ∧ On 5 .u8 w.heap.size A' n' c' (Fi.pB ws ss ys) w' ∧ Below w.heap.size w w' := by
  have hO := Has.new #[.slice A n c, .slice B m d, .slice C k e] 26 w
  have hB := ((Kept.refl w).alloc #[.slice A n c, .slice B m d, .slice C k e] 26).below
  have hlw := hW.len
  have hly := hY.len
  have hle2 := hY.le
  have hmx2 := hY.max
  unfold maxLen at hmx2
  have hwr := hW.rng
  have hS1 : w.heap.size ≤ (w.alloc (.cells #[.slice A n c, .slice B m d, .slice C k e] 26)).heap.size := hB.size
  have hYw := Lib.hid hY
  replace hW := Lib.hid (hW.below hB)
  replace hS := Lib.hid (hS.below hB)
  replace hY := Lib.hid (hY.below hB)
  replace hB := Lib.hid hB
  by_cases cm : Ob.may ws ss ys = 0
  case neg =>
    rw [Fi.put_no (w := w) cm]
    have CM := Lib.hid (fun (v : World) (hv : Below w.heap.size w v) (h1 : Wo v A n c ws) (h2 : In v B m d ss) (h3 : Sy v C k e ys) => Ob.may_any h1 h2 h3 hsz)
    generalize Ob.may ws ss ys = z at *
    have z1 : (z == 0) = false := by simpa using cm
    have z2 : (z != 0) = true := by simpa using cm
    replace hO := Lib.hid hO
    go_enter Try.func10, Try.ntmps10
    go_wp2_with (first
      | (with_reducible refine load_has (o := ⟨some 13, _, _, _, _, _⟩) rfl 26 (.tmp 1) rfl w.heap.size rfl hO.out Try.underlying26 rfl (Ob.info26 _ _ _) ?_)
      | fail)
    generalize w.alloc (.cells #[.slice A n c, .slice B m d, .slice C k e] 26) = w1 at *
    refine (CM.out _ hB.out hW.out hS.out hY.out).mono ?_; rintro r w2 ⟨rfl, hE⟩
    replace hB := Lib.hid (hB.out.trans (hE.mono hS1))
    clear hE CM hW hS hY hO
    go_wp2
    go_ret2
    exact ⟨none, 0, 0, rfl, On.none _ _ _ _, hB.out⟩
  rw [Fi.put_yes (w := w) cm]
  have hK := Fi.may_ok hwr cm
  have hPr := Lib.hid hK.pk
  obtain ⟨e1, e2, e3⟩ := hK.pack
  have hPl := Ch.pk_len ws ss ss.length
  have hn := hK.hn
  have hk := hK.hy
  have hh := hK.head
  have hpu : Fi.put ws ss ys = L.put (Fi.head (n : Int) (Ch.prev ss ss.length + 1) (k : Int)) ++ L.put (Ch.pk ws ss ss.length) ++ Fi.names ys := by unfold Fi.put; rw [hlw, hly]
  rw [hpu]
  have CM := Lib.hid (fun (v : World) (h1 : Wo v A n c ws) (h2 : In v B m d ss) (h3 : Sy v C k e ys) => Ob.may_any h1 h2 h3 hsz)
  have CP := Lib.hid (fun (v : World) (h1 : Wo v A n c ws) (h2 : In v B m d ss) => Ch.pack_any h1 h2 (by omega))
  rw [e1, e2, e3] at CP
  rw [cm] at CM ⊢
  rw [hlw] at hPl hn
  rw [hly] at hk
  clear hpu e1 e2 e3 hwr
  generalize Ch.pk ws ss ss.length = P at *
  generalize Ch.prev ss ss.length + 1 = hd at *
  have hh0 := hh.1
  have hh1 := hh.2
  replace hK := Lib.hid hK
  replace hO := Lib.hid hO
  go_enter Try.func10, Try.ntmps10
  go_wp2_with (first
    | (with_reducible refine load_has (o := ⟨some 13, _, _, _, _, _⟩) rfl 26 (.tmp 1) rfl w.heap.size rfl hO.out Try.underlying26 rfl (Ob.info26 _ _ _) ?_)
    | fail)
  generalize w.alloc (.cells #[.slice A n c, .slice B m d, .slice C k e] 26) = w1 at *
  refine (CM.out _ hW.out hS.out hY.out).mono ?_; rintro r w2 ⟨rfl, hE⟩
  replace hB := Lib.hid (hB.out.trans (hE.mono hS1))
  have hS2 : w.heap.size ≤ w2.heap.size := Nat.le_trans hS1 hE.size
  replace hO := hO.out.below hE
  replace hW := Lib.hid (hW.out.below hE)
  replace hS := Lib.hid (hS.out.below hE)
  replace hY := Lib.hid (hY.out.below hE)
  clear hE CM
  have o0 := hO.cell 0 (.slice A n c) rfl
  have o1 := hO.cell 1 (.slice B m d) rfl
  replace hO := Lib.hid hO
  go_wp2_with (fail)
  clear o0 o1
  refine (CP.out _ hW.out hS.out).mono ?_; rintro r w3 ⟨A1, n1, c1, rfl, hP, hE⟩
  replace hB := Lib.hid (hB.out.trans (hE.mono hS2))
  have hS3 : w.heap.size ≤ w3.heap.size := Nat.le_trans hS2 hE.size
  replace hO := hO.out.below hE
  replace hY := Lib.hid (hY.out.below hE)
  have hPw := hP.rg.rw hPr.out
  have hn1 : n1 = n := by rw [← hPw.len, hPl]
  subst hn1
  clear hE CP hW hS hP
  have o2 := hO.cell 2 (.slice C k e) rfl
  have hA := ((Kept.refl w3).alloc #[.int .u32 894847314, .int .u32 n1, .int .u32 hd, .int .u32 k] 45).below
  have hH := Lib.hid (show Wo _ (some ⟨w3.heap.size, 0, none⟩) 4 4 (Fi.head (n1 : Int) hd (k : Int)) from Rw.of (k := .u32) (L := 4294967296) (Fi.head (n1 : Int) hd (k : Int)) (Has.new #[.int .u32 894847314, .int .u32 n1, .int .u32 hd, .int .u32 k] 45 w3) (by simp [Fi.head, maxLen]) (by intro x hx; simp only [Fi.head, List.mem_cons, List.not_mem_nil, or_false] at hx; rcases hx with rfl | rfl | rfl | rfl <;> omega))
  have hS4 : w.heap.size ≤ (w3.alloc (.cells #[.int .u32 894847314, .int .u32 n1, .int .u32 hd, .int .u32 k] 45)).heap.size := Nat.le_trans hS3 hA.size
  replace hB := Lib.hid (hB.out.trans (hA.mono hS3))
  replace hO := Lib.hid (hO.below hA)
  replace hY := Lib.hid (hY.out.below hA)
  replace hPw := Lib.hid (hPw.below hA)
  clear hA
  go_wp2_with (fail)
  clear o2
  generalize w3.alloc (.cells #[.int .u32 894847314, .int .u32 n1, .int .u32 hd, .int .u32 k] 45) = w4 at *
  refine (L.put_own hH.out (by omega)).mono ?_; rintro r w5 ⟨g, cap, rfl, hQ, hE⟩
  replace hB := Lib.hid (hB.out.trans (hE.mono hS4))
  have hS5 : w.heap.size ≤ w5.heap.size := Nat.le_trans hS4 hE.size
  replace hO := Lib.hid (hO.out.below hE)
  replace hY := Lib.hid (hY.out.below hE)
  replace hPw := Lib.hid (hPw.out.below hE)
  replace hQ := Lib.hid (hQ.lower hS4)
  clear hE hH
  go_wp2_with (fail)
  refine (L.put_any hPw.out (by omega)).mono ?_; rintro r w6 ⟨g6, cap6, rfl, hZ, hE⟩
  replace hB := Lib.hid (hB.out.trans (hE.mono hS5))
  have hS6 : w.heap.size ≤ w6.heap.size := Nat.le_trans hS5 hE.size
  replace hO := Lib.hid (hO.out.below hE)
  replace hY := Lib.hid (hY.out.below hE)
  replace hQ := Lib.hid (hQ.out.below hE)
  replace hZ := Lib.hid hZ
  clear hE hPw
  go_wp2_with (first
    | (with_reducible refine append_row (o := ⟨some 41, _, _, _, _, _⟩) (L := 256) Try.underlying27 L.info8 (by omega) rfl (.tmp 38) (.tmp 40) rfl w.heap.size g (4 * 4) cap _ rfl hQ.out _ (4 * n1) cap6 _ rfl hZ.out (by omega) hS6 ?_
       intro g7 cap7 w7 hQ7 hG7
       have hB7 := Lib.hid (hB.out.grown hG7 hS6 (fun q e => by cases e; exact hQ.out.has.1))
       have hO7 := Lib.hid (hO.out.grown hG7 (hQ.out.on.ne hO.out (by decide)))
       have o2 := hO7.out.cell 2 (.slice C k e) rfl
       obtain ⟨N0, hN0⟩ : ∃ N, 4 * 4 + 4 * n1 = N := ⟨_, rfl⟩
       rw [hN0] at hQ7 ⊢
       replace hQ7 := Lib.hid hQ7
       clear hG7 hB hO hQ hZ hY)
    | fail)
  clear o2
  have hN1 : N0 ≤ 5000 := by omega
  obtain ⟨Z, hZe⟩ : ∃ Z, L.put (Fi.head (n1 : Int) hd (k : Int)) ++ L.put P = Z := ⟨_, rfl⟩
  rw [hZe] at hQ7
  replace hZe := Lib.hid hZe
  clear hN0 hPl hlw hPr
  go_loopw [8, 45] (fun b i wr => ∃ (j g N cap : Nat), j ≤ k ∧ N ≤ 5000 + 20 * j ∧ i = .int .i64 j ∧ b = .slice (some ⟨g, 0, none⟩) N cap ∧ Ow 5 .u8 w.heap.size g N cap (Z ++ Fi.names (ys.take j)) wr ∧ Below w.heap.size w wr) (fun _ i _ => k - (intOf i).toNat)
  case atStart => exact ⟨0, g7, N0, cap7, Nat.zero_le _, by omega, rfl, rfl, by rw [List.take_zero, show Fi.names [] = [] from rfl, List.append_nil]; exact hQ7.out, hB7.out⟩
  case round =>
    clear hB7 hQ7 hO7
    obtain ⟨j, g, N, cap, hj, hN, rfl, rfl, hQ, hB⟩ := hrel
    by_cases d1 : j < k
    · have d2 : (j : Int) < k := by omega
      obtain ⟨bc, oc, rfl⟩ := hYw.out.place (by omega)
      have g1 := (hYw.out.below hB).name j d1
      have g2 := (hYw.out.below hB).at j d1
      have hyk := hK.out.at (k := j) (by omega)
      have R := Fi.names_take (ys := ys) (k := j) (by omega)
      have hs0 : (Ob.nm ys j).size ≤ 1000000 := Ob.size_at hsz j
      have hol := Fi.one_le hyk.1
      generalize Ob.nm ys j = s at *
      generalize Ob.pl ys j = p at *
      have hp0 : 0 ≤ p := hyk.2.1
      have hp1 : p < 4294967296 := hyk.2.2
      have hsn : L.name (L.bs s) = true := hyk.1
      have hpn : L.pnE (L.bs s) = 0 ∧ L.pnB (L.bs s) = L.nameB (L.bs s) := by
        unfold L.pnE L.pnB
        rw [if_pos hsn, if_pos hsn]; exact ⟨rfl, rfl⟩
      have hol2 := hol
      rw [Fi.one_len] at hol2
      have hnl := L.nameB_len (L.bs s)
      rw [show Fi.one (s, p) = L.nameB (L.bs s) ++ L.put [p] from by unfold Fi.one; rw [Fi.four_put]] at R
      replace R := Lib.hid R
      have hSr : w.heap.size ≤ wr.heap.size := hB.size
      have hA := ((Kept.refl wr).alloc #[.string s, .int .i64 p] 52).below
      have hX := Lib.hid (Has.new #[.string s, .int .i64 p] 52 wr)
      have hS8 : w.heap.size ≤ (wr.alloc (.cells #[.string s, .int .i64 p] 52)).heap.size := Nat.le_trans hSr hA.size
      have hB8 := Lib.hid (hB.trans (hA.mono hSr))
      have hQ8 := Lib.hid (hQ.below hA)
      clear hA hQ hB hyk hol hsn
      go_wp2_with (fail)
      clear g1 g2
      generalize wr.alloc (.cells #[.string s, .int .i64 p] 52) = w8 at *
      refine (L.putName_any s hs0 w8).mono ?_; rintro r w9 ⟨A9, n9, c9, rfl, hM, hE⟩
      rw [hpn.1]
      rw [hpn.2] at hM
      have hn9 : n9 ≤ 16 := by rw [← hM.len, hnl]; omega
      have hB9 := Lib.hid (hB8.out.trans (hE.mono hS8))
      have hS9 : w.heap.size ≤ w9.heap.size := Nat.le_trans hS8 hE.size
      have hX9 := Lib.hid (hX.out.below hE)
      have hQ9 := Lib.hid (hQ8.out.below hE)
      replace hM := Lib.hid hM
      clear hE hB8 hQ8 hX hpn hnl hol2
      go_upto_region 12 with (first
        | (with_reducible refine append_row (o := ⟨some 57, _, _, _, _, _⟩) (L := 256) Try.underlying27 L.info8 (by omega) rfl (.tmp 55) (.tmp 56) rfl w.heap.size g N cap _ rfl hQ9.out _ n9 c9 _ rfl hM.out (by omega) hS9 ?_
           intro g10 cap10 w10 hQ10 hG10
           have hB10 := Lib.hid (hB9.out.grown hG10 hS9 (fun q e => by cases e; exact hQ9.out.has.1))
           have hX10 := Lib.hid (hX9.out.grown hG10 (hQ9.out.on.ne hX9.out (by decide)))
           obtain ⟨N2, hN2⟩ : ∃ N2, N + n9 = N2 := ⟨_, rfl⟩
           rw [hN2] at hQ10 ⊢
           replace hQ10 := Lib.hid hQ10
           clear hG10 hB9 hX9 hQ9 hM)
        | fail)
      have x1 := hX10.out.cell 1 (.int .i64 p) rfl
      have hS10 : w.heap.size ≤ w10.heap.size := hB10.out.size
      have hA := ((Kept.refl w10).alloc #[.int .u32 p] 45).below
      have hV := Lib.hid (Rw.one (k := .u32) (L := 4294967296) (Has.new #[.int .u32 p] 45 w10) hp0 hp1)
      have hS11 : w.heap.size ≤ (w10.alloc (.cells #[.int .u32 p] 45)).heap.size := Nat.le_trans hS10 hA.size
      have hB11 := Lib.hid (hB10.out.trans (hA.mono hS10))
      have hQ11 := Lib.hid (hQ10.out.below hA)
      clear hA hB10 hQ10 hX10
      go_wp2_with (fail)
      clear x1
      generalize w10.alloc (.cells #[.int .u32 p] 45) = w11 at *
      refine (L.put_any hV.out (by omega)).mono ?_; rintro r w12 ⟨g12, cap12, rfl, hM, hE⟩
      have hB12 := Lib.hid (hB11.out.trans (hE.mono hS11))
      have hS12 : w.heap.size ≤ w12.heap.size := Nat.le_trans hS11 hE.size
      have hQ12 := Lib.hid (hQ11.out.below hE)
      replace hM := Lib.hid hM
      clear hE hB11 hQ11 hV
      go_wp2_with (first
        | (with_reducible refine append_row (o := ⟨some 64, _, _, _, _, _⟩) (L := 256) Try.underlying27 L.info8 (by omega) rfl (.tmp 58) (.tmp 63) rfl w.heap.size g10 N2 cap10 _ rfl hQ12.out _ (4 * 1) cap12 _ rfl hM.out (by omega) hS12 ?_
           intro g13 cap13 w13 hQ13 hG13
           have hB13 := Lib.hid (hB12.out.grown hG13 hS12 (fun q e => by cases e; exact hQ12.out.has.1))
           obtain ⟨N3, hN3⟩ : ∃ N3, N2 + 4 * 1 = N3 := ⟨_, rfl⟩
           rw [hN3] at hQ13 ⊢
           rw [List.append_assoc, List.append_assoc, ← R.out] at hQ13
           replace hQ13 := Lib.hid hQ13
           clear hG13 hB12 hQ12 hM)
        | fail)
      go_roundw
      case rel => exact ⟨j + 1, g13, N3, cap13, by omega, by omega, by go_num, rfl, hQ13.out, hB13.out⟩
      case measure => simp [intOf]; omega
    · have d2 : ¬ (j : Int) < k := by omega
      obtain rfl : j = k := by omega
      rw [List.take_of_length_le (by omega)] at hQ
      replace hQ := Lib.hid hQ
      replace hB := Lib.hid hB
      go_wp2
      go_ret2
      exact ⟨some ⟨g, 0, none⟩, N, cap, rfl, by have h := hQ.out.on; rwa [← hZe.out, List.append_assoc] at h, hB.out⟩
end Go.Proofs.Ytmdknjfhdmigdaa
