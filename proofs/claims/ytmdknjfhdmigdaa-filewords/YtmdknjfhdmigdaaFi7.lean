/-
  The contract of the document's Put of package file.
-/
import Derived.Test.YtmdknjfhdmigdaaFi6
import Derived.Test.YtmdknjfhdmigdaaFi5
namespace Go.Proofs.Ytmdknjfhdmigdaa
open Go.RowKit
set_option linter.unusedVariables false
set_option linter.unusedSimpArgs false
set_option maxRecDepth 100000
set_option maxHeartbeats 4000000 in
set_option maxRecDepth 100000 in
theorem Fi.rput_any {w : World} {A B C : Option Addr} {n c m d k e : Nat} {ws ss : List Int} {ys : List Ob.Y} (hW : Wo w A n c ws) (hS : In w B m d ss) (hY : Sy w C k e ys) (hsz : ∀ y ∈ ys, y.1.size ≤ 1000000) :
    Calls Try.prog 12 #[.agg #[.slice A n c, .slice B m d, .slice C k e]] w fun r w' => ∃ A' n' c', r = .returned (.tuple #[.slice A' n' c', .int .i64 (Ob.may ws ss ys)]) ∧ On 5 .u8 w.heap.size A' n' c' (Fi.pB ws ss ys) w' ∧ Below w.heap.size w w' := by
  have hO := Has.new #[.slice A n c, .slice B m d, .slice C k e] 26 w
  have hB := ((Kept.refl w).alloc #[.slice A n c, .slice B m d, .slice C k e] 26).below
  have hlw := hW.len
  have hly := hY.len
  have hle2 := hY.le
  have hmx2 := hY.max
  unfold maxLen at hmx2
  have hwr := hW.rng
  have hS1 : w.heap.size ≤ (w.alloc (.cells #[.slice A n c, .slice B m d, .slice C k e] 26)).heap.size := hB.size
  have hYw := Lib.hid hY
  replace hW := Lib.hid (hW.below hB)
  replace hS := Lib.hid (hS.below hB)
  replace hY := Lib.hid (hY.below hB)
  replace hB := Lib.hid hB
  by_cases cm : Ob.may ws ss ys = 0
  case neg =>
    rw [Fi.put_no (w := w) cm]
    have CM := Lib.hid (fun (v : World) (hv : Below w.heap.size w v) (h1 : Wo v A n c ws) (h2 : In v B m d ss) (h3 : Sy v C k e ys) => Ob.rmay_any h1 h2 h3 hsz)
    generalize Ob.may ws ss ys = z at *
    have z1 : (z == 0) = false := by simpa using cm
    have z2 : (z != 0) = true := by simpa using cm
    replace hO := Lib.hid hO
    go_enter Try.func12, Try.ntmps12
    go_wp2_with (first
      | (with_reducible refine load_has (o := ⟨some 12, _, _, _, _, _⟩) rfl 26 (.tmp 1) rfl w.heap.size rfl hO.out Try.underlying26 rfl (Ob.info26 _ _ _) ?_)
      | fail)
    generalize w.alloc (.cells #[.slice A n c, .slice B m d, .slice C k e] 26) = w1 at *
    refine (CM.out _ hB.out hW.out hS.out hY.out).mono ?_; rintro r w2 ⟨rfl, hE⟩
    replace hB := Lib.hid (hB.out.trans (hE.mono hS1))
    clear hE CM hW hS hY hO
    go_wp2
    go_ret2
    exact ⟨none, 0, 0, rfl, On.none _ _ _ _, hB.out⟩
  rw [Fi.put_yes (w := w) cm]
  have hK := Fi.may_ok hwr cm
  have hPr := Lib.hid hK.pk
  obtain ⟨e1, e2, e3⟩ := hK.pack
  have hPl := Ch.pk_len ws ss ss.length
  have hn := hK.hn
  have hk := hK.hy
  have hh := hK.head
  have hpu : Fi.put ws ss ys = L.put (Fi.head (n : Int) (Ch.prev ss ss.length + 1) (k : Int)) ++ L.put (Ch.pk ws ss ss.length) ++ Fi.names ys := by unfold Fi.put; rw [hlw, hly]
  rw [hpu]
  have CM := Lib.hid (fun (v : World) (h1 : Wo v A n c ws) (h2 : In v B m d ss) (h3 : Sy v C k e ys) => Ob.rmay_any h1 h2 h3 hsz)
  have CP := Lib.hid (fun (v : World) (h1 : Wo v A n c ws) (h2 : In v B m d ss) => Ch.rpack_any h1 h2 (by omega))
  rw [e1, e2, e3] at CP
  rw [cm] at CM ⊢
  rw [hlw] at hPl hn
  rw [hly] at hk
  clear hpu e1 e2 e3 hwr
  generalize Ch.pk ws ss ss.length = P at *
  generalize Ch.prev ss ss.length + 1 = hd at *
  have hh0 := hh.1
  have hh1 := hh.2
  replace hK := Lib.hid hK
  replace hO := Lib.hid hO
  go_enter Try.func12, Try.ntmps12
  go_wp2_with (first
    | (with_reducible refine load_has (o := ⟨some 12, _, _, _, _, _⟩) rfl 26 (.tmp 1) rfl w.heap.size rfl hO.out Try.underlying26 rfl (Ob.info26 _ _ _) ?_)
    | fail)
  generalize w.alloc (.cells #[.slice A n c, .slice B m d, .slice C k e] 26) = w1 at *
  refine (CM.out _ hW.out hS.out hY.out).mono ?_; rintro r w2 ⟨rfl, hE⟩
  replace hB := Lib.hid (hB.out.trans (hE.mono hS1))
  have hS2 : w.heap.size ≤ w2.heap.size := Nat.le_trans hS1 hE.size
  replace hO := hO.out.below hE
  replace hW := Lib.hid (hW.out.below hE)
  replace hS := Lib.hid (hS.out.below hE)
  replace hY := Lib.hid (hY.out.below hE)
  clear hE CM
  have o0 := hO.cell 0 (.slice A n c) rfl
  have o1 := hO.cell 1 (.slice B m d) rfl
  replace hO := Lib.hid hO
  go_wp2_with (fail)
  clear o0 o1
  refine (CP.out _ hW.out hS.out).mono ?_; rintro r w3 ⟨A1, n1, c1, rfl, hP, hE⟩
  replace hB := Lib.hid (hB.out.trans (hE.mono hS2))
  have hS3 : w.heap.size ≤ w3.heap.size := Nat.le_trans hS2 hE.size
  replace hO := hO.out.below hE
  replace hY := Lib.hid (hY.out.below hE)
  have hPw := hP.rg.rw hPr.out
  have hn1 : n1 = n := by rw [← hPw.len, hPl]
  subst hn1
  clear hE CP hW hS hP
  have o0 := hO.cell 0 (.slice A n1 c) rfl
  have o2 := hO.cell 2 (.slice C k e) rfl
  have hA := ((Kept.refl w3).alloc #[.int .u32 894847314, .int .u32 n1, .int .u32 hd, .int .u32 k] 45).below
  have hH := Lib.hid (show Wo _ (some ⟨w3.heap.size, 0, none⟩) 4 4 (Fi.head (n1 : Int) hd (k : Int)) from Rw.of (k := .u32) (L := 4294967296) (Fi.head (n1 : Int) hd (k : Int)) (Has.new #[.int .u32 894847314, .int .u32 n1, .int .u32 hd, .int .u32 k] 45 w3) (by simp [Fi.head, maxLen]) (by intro x hx; simp only [Fi.head, List.mem_cons, List.not_mem_nil, or_false] at hx; rcases hx with rfl | rfl | rfl | rfl <;> omega))
  have hS4 : w.heap.size ≤ (w3.alloc (.cells #[.int .u32 894847314, .int .u32 n1, .int .u32 hd, .int .u32 k] 45)).heap.size := Nat.le_trans hS3 hA.size
  replace hB := Lib.hid (hB.out.trans (hA.mono hS3))
  replace hO := Lib.hid (hO.below hA)
  replace hY := Lib.hid (hY.out.below hA)
  replace hPw := Lib.hid (hPw.below hA)
  clear hA
  go_wp2_with (fail)
  clear o0 o2
  generalize w3.alloc (.cells #[.int .u32 894847314, .int .u32 n1, .int .u32 hd, .int .u32 k] 45) = w4 at *
  refine (L.rput_own hH.out (by omega)).mono ?_; rintro r w5 ⟨g, cap, rfl, hQ, hE⟩
  replace hB := Lib.hid (hB.out.trans (hE.mono hS4))
  have hS5 : w.heap.size ≤ w5.heap.size := Nat.le_trans hS4 hE.size
  replace hO := Lib.hid (hO.out.below hE)
  replace hY := Lib.hid (hY.out.below hE)
  replace hPw := Lib.hid (hPw.out.below hE)
  replace hQ := Lib.hid (hQ.lower hS4)
  clear hE hH
  go_wp2_with (fail)
  refine (L.rput_any hPw.out (by omega)).mono ?_; rintro r w6 ⟨g6, cap6, rfl, hZ, hE⟩
  replace hB := Lib.hid (hB.out.trans (hE.mono hS5))
  have hS6 : w.heap.size ≤ w6.heap.size := Nat.le_trans hS5 hE.size
  replace hO := Lib.hid (hO.out.below hE)
  replace hY := Lib.hid (hY.out.below hE)
  replace hQ := Lib.hid (hQ.out.below hE)
  replace hZ := Lib.hid hZ
  clear hE hPw
  go_wp2_with (first
    | (with_reducible refine append_row (o := ⟨some 41, _, _, _, _, _⟩) (L := 256) Try.underlying27 L.info8 (by omega) rfl (.tmp 38) (.tmp 40) rfl w.heap.size g (4 * 4) cap _ rfl hQ.out _ (4 * n1) cap6 _ rfl hZ.out (by omega) hS6 ?_
       intro g7 cap7 w7 hQ7 hG7
       have hB7 := Lib.hid (hB.out.grown hG7 hS6 (fun q e => by cases e; exact hQ.out.has.1))
       have hO7 := Lib.hid (hO.out.grown hG7 (hQ.out.on.ne hO.out (by decide)))
       obtain ⟨N0, hN0⟩ : ∃ N, 4 * 4 + 4 * n1 = N := ⟨_, rfl⟩
       rw [hN0] at hQ7 ⊢
       replace hQ7 := Lib.hid hQ7
       clear hG7 hB hO hQ hZ hY)
    | fail)
  have hN1 : N0 ≤ 5000 := by omega
  obtain ⟨Z, hZe⟩ : ∃ Z, L.put (Fi.head (n1 : Int) hd (k : Int)) ++ L.put P = Z := ⟨_, rfl⟩
  rw [hZe] at hQ7
  replace hZe := Lib.hid hZe
  clear hN0 hPl hlw hPr
  go_loopw [8, 9] (fun b i wr => ∃ (j g N cap : Nat), j ≤ k ∧ N ≤ 5000 + 20 * j ∧ i = .int .i64 j ∧ b = .slice (some ⟨g, 0, none⟩) N cap ∧ Ow 5 .u8 w.heap.size g N cap (Z ++ Fi.names (ys.take j)) wr ∧ Has w.heap.size #[.slice A n1 c, .slice B m d, .slice C k e] 26 wr ∧ Below w.heap.size w wr) (fun _ i _ => k - (intOf i).toNat)
  case atStart => exact ⟨0, g7, N0, cap7, Nat.zero_le _, by omega, rfl, rfl, by rw [List.take_zero, show Fi.names [] = [] from rfl, List.append_nil]; exact hQ7.out, hO7.out, hB7.out⟩
  case round =>
    clear hB7 hQ7 hO7
    obtain ⟨j, g, N, cap, hj, hN, rfl, rfl, hQ, hO, hB⟩ := hrel
    have o2 := hO.cell 2 (.slice C k e) rfl
    by_cases d1 : j < k
    · have d2 : (j : Int) < k := by omega
      obtain ⟨bc, oc, rfl⟩ := hYw.out.place (by omega)
      have hYat := fun (v : World) (hv : Below w.heap.size w v) => (hYw.out.below hv).at j d1
      have g1 := (hYw.out.below hB).name j d1
      have g2 := (hYw.out.below hB).at j d1
      have hyk := hK.out.at (k := j) (by omega)
      have R := Fi.names_take (ys := ys) (k := j) (by omega)
      have hs0 : (Ob.nm ys j).size ≤ 1000000 := Ob.size_at hsz j
      have hol := Fi.one_le hyk.1
      generalize Ob.nm ys j = s at *
      generalize Ob.pl ys j = p at *
      replace hYat := Lib.hid hYat
      have hp0 : 0 ≤ p := hyk.2.1
      have hp1 : p < 4294967296 := hyk.2.2
      have hsn : L.name (L.bs s) = true := hyk.1
      have hpn : L.pnE (L.bs s) = 0 ∧ L.pnB (L.bs s) = L.nameB (L.bs s) := by
        unfold L.pnE L.pnB
        rw [if_pos hsn, if_pos hsn]; exact ⟨rfl, rfl⟩
      have hol2 := hol
      rw [Fi.one_len] at hol2
      have hnl := L.nameB_len (L.bs s)
      rw [show Fi.one (s, p) = L.nameB (L.bs s) ++ L.put [p] from by unfold Fi.one; rw [Fi.four_put]] at R
      replace R := Lib.hid R
      have hSr : w.heap.size ≤ wr.heap.size := hB.size
      replace hO := Lib.hid hO
      replace hB := Lib.hid hB
      replace hQ := Lib.hid hQ
      clear hyk hol hsn
      go_wp2_with (fail)
      clear g1 g2 o2
      refine (L.rputName_any s hs0 wr).mono ?_; rintro r w9 ⟨A9, n9, c9, rfl, hM, hE⟩
      rw [hpn.1]
      rw [hpn.2] at hM
      have hn9 : n9 ≤ 16 := by rw [← hM.len, hnl]; omega
      replace hB := Lib.hid (hB.out.trans (hE.mono hSr))
      have hS9 : w.heap.size ≤ w9.heap.size := Nat.le_trans hSr hE.size
      replace hO := Lib.hid (hO.out.below hE)
      replace hQ := Lib.hid (hQ.out.below hE)
      replace hM := Lib.hid hM
      have q1 : IntKind.u32.wrap p = p := by rw [IntKind.wrap_u32]; omega
      clear hE hpn hnl hol2
      go_wp2_with (fail)
      refine wp_region_held_drew (S := fun w' => Below w.heap.size w w' ∧ Has w.heap.size #[.slice A n1 c, .slice B m d, .slice (some ⟨bc, oc, none⟩) k e] 26 w') (by kernel_rfl) ⟨hB.out.drew, hO.out.drew⟩ (fun hHeld => ?_)
      replace hQ := Lib.hid (hQ.out.drew)
      replace hM := Lib.hid (hM.out.drew)
      clear hB hO
      generalize w9.drew = v0 at *
      refine wpAnyH_take (i := 0) (oi := { dst := some 59, op := Op.move (Operand.tmp 8), type := 27, pos := "ref.go:22", after := #[], guard := none }) (v := ?_) rfl (by kernel_rfl) (by kernel_rfl) (by kernel_rfl) (fun _ _ _ h => h) (Or.inl ⟨rfl, ?_⟩) hHeld ?_
      rotate_left
      · (intro wz hSw; (try dsimp only at hSw); go_simp; try with_reducible rfl)
      try simp only [Act.put, List.setIfInBounds_toArray, List.set_cons_zero, List.set_cons_succ]
      refine wpAnyH_take (i := 1) (oi := { dst := some 60, op := Op.move (Operand.tmp 10), type := 27, pos := "ref.go:22", after := #[], guard := none }) (v := ?_) rfl (by kernel_rfl) (by kernel_rfl) (by kernel_rfl) (fun _ _ _ h => h) (Or.inl ⟨rfl, ?_⟩) hHeld ?_
      rotate_left
      · (intro wz hSw; (try dsimp only at hSw); go_simp; try with_reducible rfl)
      try simp only [Act.put, List.setIfInBounds_toArray, List.set_cons_zero, List.set_cons_succ]
      refine wpAnyH_take (i := 3) (oi := { dst := some 62, op := Op.fieldAddr 26 (Operand.tmp 1) 2, type := 0, pos := "ref.go:22", after := #[], guard := none }) (v := ?_) rfl (by kernel_rfl) (by kernel_rfl) (by kernel_rfl) (fun _ _ _ h => h) (Or.inl ⟨rfl, ?_⟩) hHeld ?_
      rotate_left
      · (intro wz hSw; (try dsimp only at hSw); go_simp; try with_reducible rfl)
      try simp only [Act.put, List.setIfInBounds_toArray, List.set_cons_zero, List.set_cons_succ]
      refine wpAnyH_take (i := 4) (oi := { dst := some 63, op := Op.load 24 (Operand.tmp 62), type := 24, pos := "ref.go:22", after := #[{ on := 3, ground := Ground.data }], guard := none }) (v := ?_) rfl (by kernel_rfl) (by kernel_rfl) (by kernel_rfl) (fun _ _ _ h => h) (Or.inl ⟨rfl, ?_⟩) hHeld ?_
      rotate_left
      · (intro wz hSw; have o2 := hSw.2.cell 2 (.slice (some ⟨bc, oc, none⟩) k e) rfl; go_simp; try with_reducible rfl)
      try simp only [Act.put, List.setIfInBounds_toArray, List.set_cons_zero, List.set_cons_succ]
      refine wpAnyH_take (i := 5) (oi := { dst := some 64, op := Op.move (Operand.tmp 9), type := 3, pos := "ref.go:22", after := #[], guard := none }) (v := ?_) rfl (by kernel_rfl) (by kernel_rfl) (by kernel_rfl) (fun _ _ _ h => h) (Or.inl ⟨rfl, ?_⟩) hHeld ?_
      rotate_left
      · (intro wz hSw; (try dsimp only at hSw); go_simp; try with_reducible rfl)
      try simp only [Act.put, List.setIfInBounds_toArray, List.set_cons_zero, List.set_cons_succ]
      refine wpAnyH_take (i := 6) (oi := { dst := some 65, op := Op.indexAddr 24 (Operand.tmp 63) (Operand.tmp 64), type := 0, pos := "ref.go:22", after := #[{ on := 4, ground := Ground.data }, { on := 5, ground := Ground.data }], guard := none }) (v := ?_) rfl (by kernel_rfl) (by kernel_rfl) (by kernel_rfl) (fun _ _ _ h => h) (Or.inl ⟨rfl, ?_⟩) hHeld ?_
      rotate_left
      · (intro wz hSw; (try dsimp only at hSw); go_simp; try with_reducible rfl)
      try simp only [Act.put, List.setIfInBounds_toArray, List.set_cons_zero, List.set_cons_succ]
      refine wpAnyH_take (i := 7) (oi := { dst := some 66, op := Op.fieldAddr 52 (Operand.tmp 65) 1, type := 0, pos := "ref.go:22", after := #[{ on := 6, ground := Ground.data }], guard := none }) (v := ?_) rfl (by kernel_rfl) (by kernel_rfl) (by kernel_rfl) (fun _ _ _ h => h) (Or.inl ⟨rfl, ?_⟩) hHeld ?_
      rotate_left
      · (intro wz hSw; (try dsimp only at hSw); go_simp; try with_reducible rfl)
      try simp only [Act.put, List.setIfInBounds_toArray, List.set_cons_zero, List.set_cons_succ]
      refine wpAnyH_take (i := 8) (oi := { dst := some 67, op := Op.load 3 (Operand.tmp 66), type := 3, pos := "ref.go:22", after := #[{ on := 7, ground := Ground.data }], guard := none }) (v := ?_) rfl (by kernel_rfl) (by kernel_rfl) (by kernel_rfl) (fun _ _ _ h => h) (Or.inl ⟨rfl, ?_⟩) hHeld ?_
      rotate_left
      · (intro wz hSw; have g2 := hYat.out _ hSw.1; go_simp; try with_reducible rfl)
      try simp only [Act.put, List.setIfInBounds_toArray, List.set_cons_zero, List.set_cons_succ]
      refine wpAnyH_take (i := 9) (oi := { dst := some 68, op := Op.convert 3 45 (Operand.tmp 67), type := 45, pos := "ref.go:22", after := #[{ on := 8, ground := Ground.data }], guard := none }) (v := ?_) rfl (by kernel_rfl) (by kernel_rfl) (by kernel_rfl) (fun _ _ _ h => h) (Or.inl ⟨rfl, ?_⟩) hHeld ?_
      rotate_left
      · (intro wz hSw; go_simp; (try simp only [q1]); try with_reducible rfl)
      try simp only [Act.put, List.setIfInBounds_toArray, List.set_cons_zero, List.set_cons_succ]
      refine wpAnyH_ready (rs := [2, 10]) (by kernel_rfl) (by simp) ?_
      refine AllReadyH.cons (o := { dst := some 61, op := Op.call { callee := Callee.builtin Builtin.append, args := #[Operand.tmp 59, Operand.tmp 60], argTypes := #[27, 27] }, type := 27, pos := "ref.go:22", after := #[{ on := 0, ground := Ground.data }, { on := 1, ground := Ground.data }], guard := none }) rfl (fun K hK => ?_) (AllReadyH.cons (o := { dst := some 69, op := Op.buildSlice 22 1 #[(0, Operand.tmp 68)], type := 22, pos := "ref.go:22", after := #[{ on := 9, ground := Ground.data }], guard := none }) rfl (fun K hK => ?_) (AllReadyH.nil))
      · refine wp_append_row Try.underlying27 L.info8 (by omega) (.tmp 59) (.tmp 60) rfl w.heap.size g N cap _ rfl hQ.out A9 n9 c9 _ rfl hM.out (by omega) hHeld.1.size ?_
        intro g2 cap2 v2 hQ2 hG2
        obtain ⟨N2, hN2⟩ : ∃ N2, N + n9 = N2 := ⟨_, rfl⟩
        rw [hN2] at hQ2 ⊢
        have hN0 := hHeld.1.grown hG2 hHeld.1.size (fun q e => by cases e; exact hQ.out.has.1)
        have hN1 := hHeld.2.grown hG2 (hQ.out.on.ne hHeld.2 (by decide))
        replace hQ2 := Lib.hid hQ2
        clear hG2 hQ hM
        have hN := (show (fun w' => Below w.heap.size w w' ∧ Has w.heap.size #[.slice A n1 c, .slice B m d, .slice (some ⟨bc, oc, none⟩) k e] 26 w') _ from ⟨hN0, hN1⟩)
        clear hHeld
        refine hK.out _ _ hN (fun hHeld => ?_)
        clear hK K hN
        try simp only [Act.put, List.setIfInBounds_toArray, List.set_cons_zero, List.set_cons_succ]
        refine wpAnyH_ready (rs := [10]) (by kernel_rfl) (by simp) ?_
        refine AllReadyH.cons (o := { dst := some 69, op := Op.buildSlice 22 1 #[(0, Operand.tmp 68)], type := 22, pos := "ref.go:22", after := #[{ on := 9, ground := Ground.data }], guard := none }) rfl (fun K hK => ?_) (AllReadyH.nil)
        go_simp
        have hA := ((Kept.refl v2).alloc #[.int .u32 p] 45).below
        have hV2 := Lib.hid (show On 45 .u32 w.heap.size (some ⟨v2.heap.size, 0, none⟩) 1 1 [p] (v2.alloc (.cells #[.int .u32 p] 45)) from Ow.one 45 .u32 p v2 w.heap.size hHeld.1.size)
        have hN0 := hHeld.1.trans (hA.mono hHeld.1.size)
        have hN1 := hHeld.2.below hA
        replace hQ2 := Lib.hid (hQ2.out.below hA)
        generalize v2.alloc (.cells #[.int .u32 p] 45) = v3 at *
        clear hA
        have hN := (show (fun w' => Below w.heap.size w w' ∧ Has w.heap.size #[.slice A n1 c, .slice B m d, .slice (some ⟨bc, oc, none⟩) k e] 26 w') _ from ⟨hN0, hN1⟩)
        clear hHeld
        refine hK.out _ _ hN (fun hHeld => ?_)
        clear hK K hN
        try simp only [Act.put, List.setIfInBounds_toArray, List.set_cons_zero, List.set_cons_succ]
        refine wpAnyH_ready (rs := [11]) (by kernel_rfl) (by simp) ?_
        refine AllReadyH.cons (o := { dst := some 70, op := Op.call { callee := Callee.value (Operand.func 25), args := #[Operand.tmp 69], argTypes := #[22] }, type := 27, pos := "ref.go:22", after := #[{ on := 10, ground := Ground.data }, { on := 2, ground := Ground.chain }], guard := none }) rfl (fun K hK => ?_) (AllReadyH.nil)
        go_simp
        go_at_call 25
        refine (L.rput_any (hV2.out.rg.rw (L := 4294967296) (fun x hx => by simp only [List.mem_cons, List.not_mem_nil, or_false] at hx; subst hx; exact ⟨hp0, hp1⟩)) (by omega)).mono ?_
        rintro r v4 ⟨g12, cap12, rfl, hM4, hE⟩
        have hN0 := hHeld.1.trans (hE.mono hHeld.1.size)
        have hN1 := hHeld.2.below hE
        replace hQ2 := Lib.hid (hQ2.out.below hE)
        replace hM4 := Lib.hid hM4
        clear hE hV2
        have hN := (show (fun w' => Below w.heap.size w w' ∧ Has w.heap.size #[.slice A n1 c, .slice B m d, .slice (some ⟨bc, oc, none⟩) k e] 26 w') _ from ⟨hN0, hN1⟩)
        clear hHeld
        refine hK.out _ _ hN (fun hHeld => ?_)
        clear hK K hN
        try simp only [Act.put, List.setIfInBounds_toArray, List.set_cons_zero, List.set_cons_succ]
        refine wpAnyH_ready (rs := [12]) (by kernel_rfl) (by simp) ?_
        refine AllReadyH.cons (o := { dst := some 71, op := Op.call { callee := Callee.builtin Builtin.append, args := #[Operand.tmp 61, Operand.tmp 70], argTypes := #[27, 27] }, type := 27, pos := "ref.go:22", after := #[{ on := 2, ground := Ground.data }, { on := 11, ground := Ground.data }, { on := 11, ground := Ground.chain }], guard := none }) rfl (fun K hK => ?_) (AllReadyH.nil)
        refine wp_append_row Try.underlying27 L.info8 (by omega) (.tmp 61) (.tmp 70) rfl w.heap.size g2 N2 cap2 _ rfl hQ2.out _ (4 * 1) cap12 _ rfl hM4.out (by omega) hHeld.1.size ?_
        intro g5 cap5 v5 hQ5 hG5
        obtain ⟨N5, hN5⟩ : ∃ N5, N2 + 4 * 1 = N5 := ⟨_, rfl⟩
        rw [hN5] at hQ5 ⊢
        have hN0 := hHeld.1.grown hG5 hHeld.1.size (fun q e => by cases e; exact hQ2.out.has.1)
        have hN1 := hHeld.2.grown hG5 (hQ2.out.on.ne hHeld.2 (by decide))
        rw [List.append_assoc, List.append_assoc, ← R.out] at hQ5
        replace hQ5 := Lib.hid hQ5
        clear hG5 hQ2 hM4
        have hN := (show (fun w' => Below w.heap.size w w' ∧ Has w.heap.size #[.slice A n1 c, .slice B m d, .slice (some ⟨bc, oc, none⟩) k e] 26 w') _ from ⟨hN0, hN1⟩)
        clear hHeld
        refine hK.out _ _ hN (fun hHeld => ?_)
        clear hK K hN
        try simp only [Act.put, List.setIfInBounds_toArray, List.set_cons_zero, List.set_cons_succ]
        refine wpAnyH_take (i := 13) (oi := { dst := some 8, op := Op.assign (Operand.tmp 71), type := 27, pos := "ref.go:22", after := #[{ on := 12, ground := Ground.data }, { on := 12, ground := Ground.chain }, { on := 0, ground := Ground.phase }, { on := 1, ground := Ground.phase }, { on := 2, ground := Ground.phase }, { on := 3, ground := Ground.phase }, { on := 4, ground := Ground.phase }, { on := 5, ground := Ground.phase }, { on := 6, ground := Ground.phase }, { on := 7, ground := Ground.phase }, { on := 8, ground := Ground.phase }, { on := 9, ground := Ground.phase }, { on := 10, ground := Ground.phase }, { on := 11, ground := Ground.phase }, { on := 12, ground := Ground.phase }], guard := none }) (v := ?_) rfl (by kernel_rfl) (by kernel_rfl) (by kernel_rfl) (fun _ _ _ h => h) (Or.inl ⟨rfl, ?_⟩) hHeld ?_
        rotate_left
        · (intro wz hSw; (try dsimp only at hSw); go_simp; try with_reducible rfl)
        try simp only [Act.put, List.setIfInBounds_toArray, List.set_cons_zero, List.set_cons_succ]
        refine wpAnyH_done (by kernel_rfl) ?_ _
        go_wp2
        go_roundw
        case rel => exact ⟨j + 1, g5, N5, cap5, by omega, by omega, by go_num, rfl, hQ5.out, hHeld.2, hHeld.1⟩
        case measure => simp [intOf]; omega
      · go_simp
        have hA := ((Kept.refl v0).alloc #[.int .u32 p] 45).below
        have hV := Lib.hid (Ow.one 45 .u32 p v0 w.heap.size hHeld.1.size)
        have hN0 := hHeld.1.trans (hA.mono hHeld.1.size)
        have hN1 := hHeld.2.below hA
        replace hQ := Lib.hid (hQ.out.below hA)
        replace hM := Lib.hid (hM.out.below hA)
        generalize v0.alloc (.cells #[.int .u32 p] 45) = v1 at *
        clear hA
        have hN := (show (fun w' => Below w.heap.size w w' ∧ Has w.heap.size #[.slice A n1 c, .slice B m d, .slice (some ⟨bc, oc, none⟩) k e] 26 w') _ from ⟨hN0, hN1⟩)
        clear hHeld
        refine hK.out _ _ hN (fun hHeld => ?_)
        clear hK K hN
        try simp only [Act.put, List.setIfInBounds_toArray, List.set_cons_zero, List.set_cons_succ]
        refine wpAnyH_ready (rs := [2]) (by kernel_rfl) (by simp) ?_
        refine AllReadyH.cons (o := { dst := some 61, op := Op.call { callee := Callee.builtin Builtin.append, args := #[Operand.tmp 59, Operand.tmp 60], argTypes := #[27, 27] }, type := 27, pos := "ref.go:22", after := #[{ on := 0, ground := Ground.data }, { on := 1, ground := Ground.data }], guard := none }) rfl (fun K hK => ?_) (AllReadyH.nil)
        refine wp_append_row Try.underlying27 L.info8 (by omega) (.tmp 59) (.tmp 60) rfl w.heap.size g N cap _ rfl hQ.out A9 n9 c9 _ rfl hM.out (by omega) hHeld.1.size ?_
        intro g2 cap2 v3 hQ2 hG2
        obtain ⟨N2, hN2⟩ : ∃ N2, N + n9 = N2 := ⟨_, rfl⟩
        rw [hN2] at hQ2 ⊢
        have hN0 := hHeld.1.grown hG2 hHeld.1.size (fun q e => by cases e; exact hQ.out.has.1)
        have hN1 := hHeld.2.grown hG2 (hQ.out.on.ne hHeld.2 (by decide))
        have hV2 := Lib.hid (hV.out.on.grown (base'' := w.heap.size) hG2 (hQ.out.on.unlike hV.out.on (by decide)))
        clear hV
        replace hQ2 := Lib.hid hQ2
        clear hG2 hQ hM
        have hN := (show (fun w' => Below w.heap.size w w' ∧ Has w.heap.size #[.slice A n1 c, .slice B m d, .slice (some ⟨bc, oc, none⟩) k e] 26 w') _ from ⟨hN0, hN1⟩)
        clear hHeld
        refine hK.out _ _ hN (fun hHeld => ?_)
        clear hK K hN
        try simp only [Act.put, List.setIfInBounds_toArray, List.set_cons_zero, List.set_cons_succ]
        refine wpAnyH_ready (rs := [11]) (by kernel_rfl) (by simp) ?_
        refine AllReadyH.cons (o := { dst := some 70, op := Op.call { callee := Callee.value (Operand.func 25), args := #[Operand.tmp 69], argTypes := #[22] }, type := 27, pos := "ref.go:22", after := #[{ on := 10, ground := Ground.data }, { on := 2, ground := Ground.chain }], guard := none }) rfl (fun K hK => ?_) (AllReadyH.nil)
        go_simp
        go_at_call 25
        refine (L.rput_any (hV2.out.rg.rw (L := 4294967296) (fun x hx => by simp only [List.mem_cons, List.not_mem_nil, or_false] at hx; subst hx; exact ⟨hp0, hp1⟩)) (by omega)).mono ?_
        rintro r v4 ⟨g12, cap12, rfl, hM4, hE⟩
        have hN0 := hHeld.1.trans (hE.mono hHeld.1.size)
        have hN1 := hHeld.2.below hE
        replace hQ2 := Lib.hid (hQ2.out.below hE)
        replace hM4 := Lib.hid hM4
        clear hE hV2
        have hN := (show (fun w' => Below w.heap.size w w' ∧ Has w.heap.size #[.slice A n1 c, .slice B m d, .slice (some ⟨bc, oc, none⟩) k e] 26 w') _ from ⟨hN0, hN1⟩)
        clear hHeld
        refine hK.out _ _ hN (fun hHeld => ?_)
        clear hK K hN
        try simp only [Act.put, List.setIfInBounds_toArray, List.set_cons_zero, List.set_cons_succ]
        refine wpAnyH_ready (rs := [12]) (by kernel_rfl) (by simp) ?_
        refine AllReadyH.cons (o := { dst := some 71, op := Op.call { callee := Callee.builtin Builtin.append, args := #[Operand.tmp 61, Operand.tmp 70], argTypes := #[27, 27] }, type := 27, pos := "ref.go:22", after := #[{ on := 2, ground := Ground.data }, { on := 11, ground := Ground.data }, { on := 11, ground := Ground.chain }], guard := none }) rfl (fun K hK => ?_) (AllReadyH.nil)
        refine wp_append_row Try.underlying27 L.info8 (by omega) (.tmp 61) (.tmp 70) rfl w.heap.size g2 N2 cap2 _ rfl hQ2.out _ (4 * 1) cap12 _ rfl hM4.out (by omega) hHeld.1.size ?_
        intro g5 cap5 v5 hQ5 hG5
        obtain ⟨N5, hN5⟩ : ∃ N5, N2 + 4 * 1 = N5 := ⟨_, rfl⟩
        rw [hN5] at hQ5 ⊢
        have hN0 := hHeld.1.grown hG5 hHeld.1.size (fun q e => by cases e; exact hQ2.out.has.1)
        have hN1 := hHeld.2.grown hG5 (hQ2.out.on.ne hHeld.2 (by decide))
        rw [List.append_assoc, List.append_assoc, ← R.out] at hQ5
        replace hQ5 := Lib.hid hQ5
        clear hG5 hQ2 hM4
        have hN := (show (fun w' => Below w.heap.size w w' ∧ Has w.heap.size #[.slice A n1 c, .slice B m d, .slice (some ⟨bc, oc, none⟩) k e] 26 w') _ from ⟨hN0, hN1⟩)
        clear hHeld
        refine hK.out _ _ hN (fun hHeld => ?_)
        clear hK K hN
        try simp only [Act.put, List.setIfInBounds_toArray, List.set_cons_zero, List.set_cons_succ]
        refine wpAnyH_take (i := 13) (oi := { dst := some 8, op := Op.assign (Operand.tmp 71), type := 27, pos := "ref.go:22", after := #[{ on := 12, ground := Ground.data }, { on := 12, ground := Ground.chain }, { on := 0, ground := Ground.phase }, { on := 1, ground := Ground.phase }, { on := 2, ground := Ground.phase }, { on := 3, ground := Ground.phase }, { on := 4, ground := Ground.phase }, { on := 5, ground := Ground.phase }, { on := 6, ground := Ground.phase }, { on := 7, ground := Ground.phase }, { on := 8, ground := Ground.phase }, { on := 9, ground := Ground.phase }, { on := 10, ground := Ground.phase }, { on := 11, ground := Ground.phase }, { on := 12, ground := Ground.phase }], guard := none }) (v := ?_) rfl (by kernel_rfl) (by kernel_rfl) (by kernel_rfl) (fun _ _ _ h => h) (Or.inl ⟨rfl, ?_⟩) hHeld ?_
        rotate_left
        · (intro wz hSw; (try dsimp only at hSw); go_simp; try with_reducible rfl)
        try simp only [Act.put, List.setIfInBounds_toArray, List.set_cons_zero, List.set_cons_succ]
        refine wpAnyH_done (by kernel_rfl) ?_ _
        go_wp2
        go_roundw
        case rel => exact ⟨j + 1, g5, N5, cap5, by omega, by omega, by go_num, rfl, hQ5.out, hHeld.2, hHeld.1⟩
        case measure => simp [intOf]; omega
    · have d2 : ¬ (j : Int) < k := by omega
      obtain rfl : j = k := by omega
      rw [List.take_of_length_le (by omega)] at hQ
      replace hQ := Lib.hid hQ
      replace hB := Lib.hid hB
      clear hO
      go_wp2
      go_ret2
      exact ⟨some ⟨g, 0, none⟩, N, cap, rfl, by have h := hQ.out.on; rwa [← hZe.out, List.append_assoc] at h, hB.out⟩
end Go.Proofs.Ytmdknjfhdmigdaa
