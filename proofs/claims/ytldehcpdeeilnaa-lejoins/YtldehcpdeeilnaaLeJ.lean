/-
  The walk of LeJoins.
-/
import Derived.Test.YtldehcpdeeilnaaLeQ
namespace Go.Proofs.Ytldehcpdeeilnaa
open Go.RowKit
set_option linter.unusedVariables false
set_option linter.unusedSimpArgs false
set_option maxRecDepth 100000
set_option maxHeartbeats 4000000 in
set_option maxRecDepth 100000 in
theorem walk_joins (w : World) (A : Option Addr) (n c : Nat) (xs : List Int) (hx : Wo w A n c xs) (A2 : Option Addr) (n2 c2 : Nat) (xs2 : List Int) (hx2 : Wo w A2 n2 c2 xs2) (s : ByteArray) (hs : s.size ≤ maxLen) :
    Calls Try.prog 7 #[.slice A n c, .slice A2 n2 c2, .string s] w fun e w' => e = .returned (.bool true) ∧ Below w.heap.size w w' := by
  have hX0 := Lib.hid hx
  have hX := hx.take (min n 40) (by omega)
  have hn40 : min n 40 ≤ 40 := by omega
  generalize hmn : min n 40 = k at *
  replace hmn := Lib.hid hmn
  generalize xs.take k = ys at *
  have hyl := hX.len
  have hyr := Lib.hid hX.rng
  replace hX := Lib.hid hX
  have hZ0 := Lib.hid hx2
  have hZ := hx2.take (min n2 40) (by omega)
  have hn402 : min n2 40 ≤ 40 := by omega
  generalize hmn2 : min n2 40 = k2 at *
  replace hmn2 := Lib.hid hmn2
  generalize xs2.take k2 = zs at *
  have hzl := hZ.len
  have hur := Lib.hid (L.wor_append hyr.out hZ.rng)
  replace hZ := Lib.hid hZ
  clear hx hx2 hyr
  have hsm : (s.size : Int) ≤ 9223372036854775807 := by unfold maxLen at hs; omega
  go_enter Try.func7, Try.ntmps7
  go_wp2_with (fail)
  refine (L.shown_any w).mono ?_; rintro e w1 ⟨rfl, hB⟩
  replace hB := Lib.hid hB
  go_wp2_with (fail)
  refine (L.few_any _ A n c xs (hX0.out.below hB.out)).mono ?_; rintro e wq ⟨rfl, rfl⟩
  rw [hmn.out]
  go_wp2_with (fail)
  refine (L.few_any _ A2 n2 c2 xs2 (hZ0.out.below hB.out)).mono ?_; rintro e wq ⟨rfl, rfl⟩
  rw [hmn2.out]
  clear hmn hmn2 hX0 hZ0
  replace hX := Lib.hid (hX.out.below hB.out)
  replace hZ := Lib.hid (hZ.out.below hB.out)
  go_wp2_with (fail)
  refine (L.put_any hX.out (by omega)).mono ?_; rintro e w2 ⟨gp, cp, rfl, hP, hE⟩
  replace hP := Lib.hid hP
  replace hB := Lib.hid (Bel.trans hB.out hE)
  replace hX := Lib.hid (hX.out.below hE)
  replace hZ := Lib.hid (hZ.out.below hE)
  clear hE
  go_wp2_with (fail)
  refine (L.put_any hZ.out (by omega)).mono ?_; rintro e w4 ⟨gq, cq, rfl, hQ, hE⟩
  replace hQ := Lib.hid hQ
  replace hB := Lib.hid (Bel.trans hB.out hE)
  replace hX := Lib.hid (hX.out.below hE)
  replace hZ := Lib.hid (hZ.out.below hE)
  replace hP := Lib.hid (hP.out.below hE)
  clear hE
  have hO := Ow.new 5 .u8 w4 w4.heap.size (Nat.le_refl _)
  have hE := ((Kept.refl w4).alloc #[] 5).below
  have hs0 : w4.heap.size ≤ (w4.alloc (.cells #[] 5)).heap.size := hE.size
  have hg := hO.has.1
  have hR1 := Lib.hid (hP.out.below hE)
  replace hO := Lib.hid hO
  replace hE := Lib.hid hE
  go_wp2_with (first
    | (with_reducible refine append_row (o := ⟨some 34, _, _, _, _, _⟩) (L := 256) Try.underlying23 L.info8 (by omega) rfl (.tmp 32) (.tmp 33) rfl w4.heap.size _ _ _ _ rfl hO.out _ (4 * k) cp (L.put ys) rfl hR1.out (by omega) hs0 ?_; intro g3 cap3 w3 hO3 hG3; rw [List.nil_append, Nat.zero_add] at hO3; replace hE := Lib.hid (hE.out.grown hG3 hs0 (fun q e => by cases e; exact hg)); replace hO := Lib.hid hO3; clear hO3 hG3 hR1 hs0 hg; have hs0 := hE.out.size; have hg := hO.out.has.1; have hR1 := Lib.hid (hQ.out.below hE.out))
    | (with_reducible refine append_row (o := ⟨some 36, _, _, _, _, _⟩) (L := 256) Try.underlying23 L.info8 (by omega) rfl (.tmp 34) (.tmp 35) rfl w4.heap.size _ _ _ _ rfl hO.out _ (4 * k2) cq (L.put zs) rfl hR1.out (by omega) hs0 ?_; intro g4 cap4 w5 hO4 hG4; replace hE := Lib.hid (hE.out.grown hG4 hs0 (fun q e => by cases e; exact hg)); replace hO := Lib.hid hO4; clear hO4 hG4 hR1 hs0 hg))
  replace hO := hO.out
  rw [← L.put_append] at hO
  have hT := Lib.hid (hO.rw (L := 256) (L.put_byt _))
  replace hB := Lib.hid (Bel.trans hB.out hE.out)
  replace hX := Lib.hid (hX.out.below hE.out)
  replace hZ := Lib.hid (hZ.out.below hE.out)
  clear hO hE hP hQ
  have hK := L.tk_put (ys ++ zs) [] hur.out
  rw [List.append_nil, List.length_append, hyl, hzl, Int.natCast_add] at hK
  have hul : (ys ++ zs).length = k + k2 := by rw [List.length_append, hyl, hzl]
  go_wp2_with (fail)
  refine (L.take_any hT.out (by omega) ((k : Int) + (k2 : Int))).mono ?_; rintro e w6 ⟨A5, n5, c5, rfl, hT5, hE⟩
  rw [hK.1]
  rw [hK.2] at hT5
  have hn5 : n5 = k + k2 := by have := hT5.len; omega
  replace hT5 := Lib.hid hT5
  replace hB := Lib.hid (Bel.trans hB.out hE)
  replace hX := Lib.hid (hX.out.below hE)
  replace hZ := Lib.hid (hZ.out.below hE)
  replace hT := Lib.hid (hT.out.below hE)
  clear hE hK
  go_wp2_with (fail)
  refine (L.fit_any s hs w6).mono ?_; rintro e w7 ⟨t, rfl, hN, hE⟩
  replace hB := Lib.hid (Bel.trans hB.out hE)
  replace hX := Lib.hid (hX.out.below hE)
  replace hZ := Lib.hid (hZ.out.below hE)
  replace hT := Lib.hid (hT.out.below hE)
  replace hT5 := Lib.hid (hT5.out.below hE)
  clear hE
  have ht12 := L.name_size hN
  have htl := L.bs_len t
  replace hN := Lib.hid hN
  go_wp2_with (fail)
  refine (L.putName_yes t hN.out w7).mono ?_; rintro e w8 ⟨gn, cn, rfl, hC, hE⟩
  replace hB := Lib.hid (Bel.trans hB.out hE)
  replace hX := Lib.hid (hX.out.below hE)
  replace hZ := Lib.hid (hZ.out.below hE)
  replace hT := Lib.hid (hT.out.below hE)
  replace hT5 := Lib.hid (hT5.out.below hE)
  clear hE
  have hw := L.whole_le t.size
  have hnl := L.nameB_len (L.bs t)
  have hMid := L.nameB_mid (L.bs t)
  have hFst : (L.nameB (L.bs t))[0]? = some (t.size : Int) := by rw [L.nameB_cons, htl]; rfl
  have hSet := fun i h1 h2 v hv => L.tn_set (L.bs t) hN.out i h1 h2 v hv
  have hZer := fun i h1 h2 => L.nameB_zero (L.bs t) i h1 h2
  have hnb := L.nameB_byt (L.bs t) (L.bs_rng t) (by omega)
  rw [htl] at hnl hMid hSet hZer
  replace hSet := Lib.hid hSet
  replace hZer := Lib.hid hZer
  replace hnb := Lib.hid hnb
  generalize L.nameB (L.bs t) = nb at *
  generalize L.whole t.size = M at *
  have hM1 : (M : Int) ≤ 17 := by omega
  have hMc := hC.le
  have hS := hC.sub 1 (1 + t.size) (by omega) (by omega)
  rw [hMid, show 1 + t.size - 1 = t.size by omega, Nat.zero_add] at hS
  have g0 := hC.cellAt 0 _ hFst
  replace hS := Lib.hid hS
  replace hC := Lib.hid hC
  have hTz : (t.size : Int) ≤ 12 := by omega
  have k1 : 0 ≤ 1 + (t.size : Int) ∧ 1 + (t.size : Int) ≤ (cn : Int) := by omega
  have k3 : 1 ≤ max (1 + (t.size : Int)) 0 := by omega
  have k4 : ¬ cn = 1 := by omega
  have k5 : (1 + (t.size : Int)).toNat - 1 = t.size := by omega
  have k6 : ¬ (M : Int) < 1 + (t.size : Int) := by omega
  have k7 : (0 : Int) < (M : Int) := by omega
  have k8 : decide ((M : Int) < 1 + (t.size : Int)) = false := decide_eq_false k6
  clear hN htl hnl hMid hFst
  go_wp2_with (with_reducible refine want_do (o := ⟨some 87, _, _, _, _, _⟩) rfl (exec_text Try.underlying23 Try.underlying5 Try.underlying9 (.tmp 86) rfl rfl hS.out) ?_; rw [L.str_bs])
  clear k1 k3 k4 k5 k6 k8 hS g0
  go_loopw [18, 19, 20, 21, 22] (fun i _ _ _ _ wr => ∃ q : Nat, 1 + t.size + q ≤ M ∧ i = .int .i64 ((1 + t.size + q : Nat) : Int) ∧ Below w8.heap.size w8 wr) (fun i _ _ _ _ _ => M - (intOf i).toNat)
  case atStart => exact ⟨0, by omega, by go_num, Below.refl _ _⟩
  case round =>
    obtain ⟨q, hq, rfl, hE0⟩ := hrel
    by_cases d1 : 1 + t.size + q < M
    · have d2 : ((1 + t.size + q : Nat) : Int) < M := by omega
      have R := hSet.out (1 + t.size + q) (by omega) d1 (1 + (s.size : Int) % 255) (by omega)
      have z0 := hZer.out (1 + t.size + q) (by omega) d1
      generalize hI : 1 + t.size + q = I0 at *
      have hC9 := Lib.hid (hC.out.below hE0)
      have hv1 : 0 ≤ (s.size : Int) % 255 ∧ (s.size : Int) % 255 < 255 := by omega
      replace R := Lib.hid R
      replace z0 := Lib.hid z0
      replace hE0 := Lib.hid hE0
      have hO := Ow.new 5 .u8 wr wr.heap.size (Nat.le_refl _)
      have hE := ((Kept.refl wr).alloc #[] 5).below
      have hs0 : wr.heap.size ≤ (wr.alloc (.cells #[] 5)).heap.size := hE.size
      have hg := hO.has.1
      have hR1 := Lib.hid (hC9.out.below hE)
      replace hO := Lib.hid hO
      replace hE := Lib.hid hE
      go_upto_region 16 with (with_reducible refine append_row (o := ⟨some 102, _, _, _, _, _⟩) (L := 256) Try.underlying23 L.info8 (by omega) rfl (.tmp 100) (.tmp 101) rfl wr.heap.size _ _ _ _ rfl hO.out _ M cn nb rfl hR1.out (by omega) hs0 ?_; intro g3 cap3 w3 hO3 hG3)
      rw [List.nil_append, Nat.zero_add] at hO3
      replace hE := Lib.hid (hE.out.grown hG3 hs0 (fun q e => by cases e; exact hg))
      replace hO := Lib.hid hO3
      have hg3 := hO.out.has.1
      clear hO3 hG3 hR1 hs0 hg
      obtain ⟨v0, hv0⟩ := hO.out.cell I0 d1
      have hf0 := hO.out.free I0
      have hO5 := hO.out.set I0 (1 + (s.size : Int) % 255)
      have hY5 := Lib.hid (hO5.rw (L := 256) (fun x hx => (mem_set hx).elim (hnb.out x) (fun e => by rw [e]; omega)))
      have hE5 := Lib.hid (hE.out.setCell (p := ⟨g3, I0, none⟩) hg3 (.int .u8 (1 + (s.size : Int) % 255)))
      clear hO5 hO hE hg3
      go_wp2_with (fail)
      clear hv0 hf0
      generalize w3.setCell ⟨g3, I0, none⟩ (.int .u8 (1 + (s.size : Int) % 255)) = w10 at *
      refine (L.takeName_any hY5.out (by omega)).mono ?_; rintro e w11 ⟨rfl, hE6⟩
      rw [R.out]
      replace hE5 := Lib.hid (Bel.trans hE5.out hE6)
      have g1 := (hC9.out.below hE5.out).cellAt I0 0 z0.out
      rw [Nat.zero_add] at g1
      replace hE0 := Lib.hid (Bel.trans hE0.out hE5.out)
      clear hE6 hE5 hY5 R z0 hC9
      go_wp2
      go_roundw
      case rel => exact ⟨q + 1, by omega, by rw [show 1 + t.size + (q + 1) = I0 + 1 by omega]; go_num, hE0.out⟩
      case measure => simp [intOf]; omega
    · have d2 : ¬ ((1 + t.size + q : Nat) : Int) < M := by omega
      replace hB := Lib.hid (Bel.trans hB.out hE0)
      replace hX := Lib.hid (hX.out.below hE0)
      replace hZ := Lib.hid (hZ.out.below hE0)
      replace hT := Lib.hid (hT.out.below hE0)
      replace hT5 := Lib.hid (hT5.out.below hE0)
      clear hE0 hC hSet hZer hnb d1
      rename World => w9
      subst hn5
      generalize hus : ys ++ zs = us at *
      go_wp2_with (fail)
      refine wp_region_held_drew (S := fun w' => Below w9.heap.size w9 w') (by kernel_rfl) ((Below.refl _ _).drew) (fun hHeld => ?_)
      replace hB := Lib.hid (Bel.trans hB.out hHeld)
      replace hX := Lib.hid (hX.out.below hHeld)
      replace hZ := Lib.hid (hZ.out.below hHeld)
      replace hT5 := Lib.hid (hT5.out.below hHeld)
      replace hT := Lib.hid (hT.out.below hHeld)
      refine wpAnyH_now _ _ _ _ hHeld (fun hHeld => ?_)
      generalize w9.drew = w9d at *
      refine wpAnyH_take (i := 0) (oi := { dst := some 126, op := Op.move (Operand.tmp 13), type := 22, pos := "more.go:32", after := #[], guard := none }) (v := ?_) rfl (by kernel_rfl) (by kernel_rfl) (by kernel_rfl) (fun _ _ _ h => h) (Or.inl ⟨rfl, ?_⟩) hHeld ?_
      rotate_left
      · (intro wz hSw; go_simp; try with_reducible rfl)
      try simp only [Act.put, List.setIfInBounds_toArray, List.set_cons_zero, List.set_cons_succ]
      refine wpAnyH_take (i := 2) (oi := { dst := some 128, op := Op.move (Operand.tmp 8), type := 22, pos := "more.go:32", after := #[], guard := none }) (v := ?_) rfl (by kernel_rfl) (by kernel_rfl) (by kernel_rfl) (fun _ _ _ h => h) (Or.inl ⟨rfl, ?_⟩) hHeld ?_
      rotate_left
      · (intro wz hSw; go_simp; try with_reducible rfl)
      try simp only [Act.put, List.setIfInBounds_toArray, List.set_cons_zero, List.set_cons_succ]
      refine wpAnyH_take (i := 4) (oi := { dst := some 130, op := Op.move (Operand.tmp 9), type := 22, pos := "more.go:32", after := #[], guard := none }) (v := ?_) rfl (by kernel_rfl) (by kernel_rfl) (by kernel_rfl) (fun _ _ _ h => h) (Or.inl ⟨rfl, ?_⟩) hHeld ?_
      rotate_left
      · (intro wz hSw; go_simp; try with_reducible rfl)
      try simp only [Act.put, List.setIfInBounds_toArray, List.set_cons_zero, List.set_cons_succ]
      refine wpAnyH_ready (rs := [1]) (by kernel_rfl) (by simp) ?_
      refine AllReadyH.cons (o := { dst := some 127, op := Op.buildSlice 22 0 #[], type := 22, pos := "more.go:32", after := #[], guard := none }) rfl (fun K hK => ?_) AllReadyH.nil
      go_simp
      have hO := Lib.hid (Ow.new 43 .u32 w9d w9d.heap.size (Nat.le_refl _))
      have hE := ((Kept.refl w9d).alloc #[] 43).below
      clear hHeld
      refine hK.out _ _ hE (fun hHeld => ?_)
      clear hK K hE
      try simp only [Act.put, List.setIfInBounds_toArray, List.set_cons_zero, List.set_cons_succ]
      refine wpAnyH_ready (rs := [3]) (by kernel_rfl) (by simp) ?_
      refine AllReadyH.cons (o := { dst := some 129, op := Op.call { callee := Callee.builtin Builtin.append, args := #[Operand.tmp 127, Operand.tmp 128], argTypes := #[22, 22] }, type := 22, pos := "more.go:32", after := #[{ on := 1, ground := Ground.data }, { on := 2, ground := Ground.data }], guard := none }) rfl (fun K hK => ?_) AllReadyH.nil
      rw [if_pos (by rfl)]
      have hs0 := hHeld.size
      have hg := hO.out.has.1
      refine wp_append_row (o := { dst := some 129, op := Op.call { callee := Callee.builtin Builtin.append, args := #[Operand.tmp 127, Operand.tmp 128], argTypes := #[22, 22] }, type := 22, pos := "more.go:32", after := #[{ on := 1, ground := Ground.data }, { on := 2, ground := Ground.data }], guard := none }) (L := 4294967296) Try.underlying22 L.info32 (by omega) (.tmp 127) (.tmp 128) rfl w9d.heap.size _ _ _ _ ?_ hO.out _ k c ys ?_ (hX.out.below hHeld) (by omega) hs0 ?_
      · rfl
      · rfl
      intro g3 cap3 w3 hO3 hG3
      rw [List.nil_append, Nat.zero_add] at hO3
      rw [Nat.zero_add]
      have hE := hHeld.grown hG3 hs0 (fun q e => by cases e; exact hg)
      replace hO := Lib.hid hO3
      clear hO3 hG3 hs0 hg
      clear hHeld
      refine hK.out _ _ hE (fun hHeld => ?_)
      clear hK K hE
      try simp only [Act.put, List.setIfInBounds_toArray, List.set_cons_zero, List.set_cons_succ]
      refine wpAnyH_ready (rs := [5]) (by kernel_rfl) (by simp) ?_
      refine AllReadyH.cons (o := { dst := some 131, op := Op.call { callee := Callee.builtin Builtin.append, args := #[Operand.tmp 129, Operand.tmp 130], argTypes := #[22, 22] }, type := 22, pos := "more.go:32", after := #[{ on := 3, ground := Ground.data }, { on := 4, ground := Ground.data }, { on := 3, ground := Ground.chain }], guard := none }) rfl (fun K hK => ?_) AllReadyH.nil
      rw [if_pos (by rfl)]
      have hs0 := hHeld.size
      have hg := hO.out.has.1
      refine wp_append_row (o := { dst := some 131, op := Op.call { callee := Callee.builtin Builtin.append, args := #[Operand.tmp 129, Operand.tmp 130], argTypes := #[22, 22] }, type := 22, pos := "more.go:32", after := #[{ on := 3, ground := Ground.data }, { on := 4, ground := Ground.data }, { on := 3, ground := Ground.chain }], guard := none }) (L := 4294967296) Try.underlying22 L.info32 (by omega) (.tmp 129) (.tmp 130) rfl w9d.heap.size _ _ _ _ ?_ hO.out _ k2 c2 zs ?_ (hZ.out.below hHeld) (by omega) hs0 ?_
      · rfl
      · rfl
      intro g4 cap4 w10 hO4 hG4
      rw [hus] at hO4
      have hE := hHeld.grown hG4 hs0 (fun q e => by cases e; exact hg)
      have hW := hO4.rw (L := 4294967296) hur.out
      clear hO4 hG4 hs0 hg hO
      clear hHeld
      refine hK.out _ _ hE (fun hHeld => ?_)
      clear hK K
      replace hB := Lib.hid (Bel.trans hB.out hE)
      replace hX := Lib.hid (hX.out.below hE)
      replace hZ := Lib.hid (hZ.out.below hE)
      replace hT5 := Lib.hid (hT5.out.below hE)
      replace hT := Lib.hid (hT.out.below hE)
      replace hW := Lib.hid hW
      refine wpAnyH_now _ _ _ _ hE (fun hHeld => ?_)
      clear hE
      try simp only [Act.put, List.setIfInBounds_toArray, List.set_cons_zero, List.set_cons_succ]
      refine wpAnyH_ready (rs := [6]) (by kernel_rfl) (by simp) ?_
      refine AllReadyH.cons (o := { dst := some 132, op := Op.call { callee := Callee.value (Operand.func 12), args := #[Operand.tmp 126, Operand.tmp 131], argTypes := #[22, 22] }, type := 4, pos := "more.go:32", after := #[{ on := 0, ground := Ground.data }, { on := 5, ground := Ground.data }, { on := 5, ground := Ground.chain }], guard := none }) rfl (fun K hK => ?_) AllReadyH.nil
      go_simp
      go_at_call 12
      refine (L.same_true hT5.out hW.out).mono ?_
      rintro e w11 ⟨rfl, hE⟩
      clear hHeld
      refine hK.out _ _ hE (fun hHeld => ?_)
      clear hK K
      replace hB := Lib.hid (Bel.trans hB.out hE)
      replace hX := Lib.hid (hX.out.below hE)
      replace hZ := Lib.hid (hZ.out.below hE)
      replace hT5 := Lib.hid (hT5.out.below hE)
      replace hT := Lib.hid (hT.out.below hE)
      replace hW := Lib.hid (hW.out.below hE)
      refine wpAnyH_now _ _ _ _ hE (fun hHeld => ?_)
      clear hE
      try simp only [Act.put, List.setIfInBounds_toArray, List.set_cons_zero, List.set_cons_succ]
      refine wpAnyH_take (i := 7) (oi := { dst := some 133, op := Op.move (Operand.tmp 132), type := 4, pos := "more.go:32", after := #[{ on := 6, ground := Ground.data }, { on := 6, ground := Ground.chain }], guard := none }) (v := ?_) rfl (by kernel_rfl) (by kernel_rfl) (by kernel_rfl) (fun _ _ _ h => h) (Or.inl ⟨rfl, ?_⟩) hHeld ?_
      rotate_left
      · (intro wz hSw; go_simp; try with_reducible rfl)
      try simp only [Act.put, List.setIfInBounds_toArray, List.set_cons_zero, List.set_cons_succ]
      refine wpAnyH_take (i := 8) (oi := { dst := some 134, op := Op.move (Operand.tmp 13), type := 22, pos := "more.go:32", after := #[{ on := 7, ground := Ground.guard }], guard := some (7, true) }) (v := ?_) rfl (by kernel_rfl) (by kernel_rfl) (by kernel_rfl) (fun _ _ _ h => h) (Or.inl ⟨rfl, ?_⟩) hHeld ?_
      rotate_left
      · (intro wz hSw; go_simp; try with_reducible rfl)
      try simp only [Act.put, List.setIfInBounds_toArray, List.set_cons_zero, List.set_cons_succ]
      refine wpAnyH_take (i := 11) (oi := { dst := some 137, op := Op.move (Operand.tmp 12), type := 23, pos := "more.go:32", after := #[{ on := 7, ground := Ground.guard }], guard := some (7, true) }) (v := ?_) rfl (by kernel_rfl) (by kernel_rfl) (by kernel_rfl) (fun _ _ _ h => h) (Or.inl ⟨rfl, ?_⟩) hHeld ?_
      rotate_left
      · (intro wz hSw; go_simp; try with_reducible rfl)
      try simp only [Act.put, List.setIfInBounds_toArray, List.set_cons_zero, List.set_cons_succ]
      refine wpAnyH_take (i := 12) (oi := { dst := some 138, op := Op.convert 23 9 (Operand.tmp 137), type := 9, pos := "more.go:32", after := #[{ on := 11, ground := Ground.data }, { on := 7, ground := Ground.guard }], guard := some (7, true) }) (v := ?_) rfl (by kernel_rfl) (by kernel_rfl) (by kernel_rfl) (fun _ _ _ h => h) (Or.inl ⟨rfl, ?_⟩) hHeld ?_
      rotate_left
      · (intro wz hSw; refine exec_text Try.underlying23 Try.underlying5 Try.underlying9 (.tmp 137) ?_ ?_ (hT.out.below hSw) <;> rfl)
      try simp only [Act.put, List.setIfInBounds_toArray, List.set_cons_zero, List.set_cons_succ]
      refine wpAnyH_ready (rs := [9]) (by kernel_rfl) (by simp) ?_
      refine AllReadyH.cons (o := { dst := some 135, op := Op.call { callee := Callee.value (Operand.func 13), args := #[Operand.tmp 134], argTypes := #[22] }, type := 23, pos := "more.go:32", after := #[{ on := 8, ground := Ground.data }, { on := 7, ground := Ground.chain }, { on := 7, ground := Ground.guard }], guard := some (7, true) }) rfl (fun K hK => ?_) AllReadyH.nil
      go_simp
      go_at_call 13
      refine (L.put_any hT5.out (by omega)).mono ?_
      rintro e w12 ⟨gr, cr, rfl, hR, hE⟩
      clear hHeld
      refine hK.out _ _ hE (fun hHeld => ?_)
      clear hK K
      replace hB := Lib.hid (Bel.trans hB.out hE)
      replace hX := Lib.hid (hX.out.below hE)
      replace hZ := Lib.hid (hZ.out.below hE)
      replace hT5 := Lib.hid (hT5.out.below hE)
      replace hT := Lib.hid (hT.out.below hE)
      replace hW := Lib.hid (hW.out.below hE)
      replace hR := Lib.hid hR
      refine wpAnyH_now _ _ _ _ hE (fun hHeld => ?_)
      clear hE
      try simp only [Act.put, List.setIfInBounds_toArray, List.set_cons_zero, List.set_cons_succ]
      refine wpAnyH_take (i := 10) (oi := { dst := some 136, op := Op.convert 23 9 (Operand.tmp 135), type := 9, pos := "more.go:32", after := #[{ on := 9, ground := Ground.data }, { on := 7, ground := Ground.guard }], guard := some (7, true) }) (v := ?_) rfl (by kernel_rfl) (by kernel_rfl) (by kernel_rfl) (fun _ _ _ h => h) (Or.inl ⟨rfl, ?_⟩) hHeld ?_
      rotate_left
      · (intro wz hSw; refine exec_text Try.underlying23 Try.underlying5 Try.underlying9 (.tmp 135) ?_ ?_ (hR.out.below hSw) <;> rfl)
      try simp only [Act.put, List.setIfInBounds_toArray, List.set_cons_zero, List.set_cons_succ]
      refine wpAnyH_take (i := 13) (oi := { dst := some 139, op := Op.binOp BinOp.eql 9 (Operand.tmp 136) (Operand.tmp 138) 9, type := 4, pos := "more.go:32", after := #[{ on := 10, ground := Ground.data }, { on := 12, ground := Ground.data }, { on := 7, ground := Ground.guard }], guard := some (7, true) }) (v := ?_) rfl (by kernel_rfl) (by kernel_rfl) (by kernel_rfl) (fun _ _ _ h => h) (Or.inl ⟨rfl, ?_⟩) hHeld ?_
      rotate_left
      · (intro wz hSw; go_simp; try with_reducible rfl)
      try simp only [Act.put, List.setIfInBounds_toArray, List.set_cons_zero, List.set_cons_succ]
      refine wpAnyH_take (i := 14) (oi := { dst := some 140, op := Op.pick (Operand.tmp 133) (Operand.tmp 139) (Operand.const (Value.bool false)), type := 4, pos := "more.go:32", after := #[{ on := 7, ground := Ground.data }, { on := 13, ground := Ground.data }], guard := none }) (v := ?_) rfl (by kernel_rfl) (by kernel_rfl) (by kernel_rfl) (fun _ _ _ h => h) (Or.inl ⟨rfl, ?_⟩) hHeld ?_
      rotate_left
      · (intro wz hSw; go_simp; try with_reducible rfl)
      try simp only [Act.put, List.setIfInBounds_toArray, List.set_cons_zero, List.set_cons_succ]
      refine wpAnyH_take (i := 15) (oi := { dst := some 6, op := Op.assign (Operand.tmp 140), type := 4, pos := "more.go:32", after := #[{ on := 14, ground := Ground.data }, { on := 9, ground := Ground.chain }, { on := 0, ground := Ground.phase }, { on := 1, ground := Ground.phase }, { on := 2, ground := Ground.phase }, { on := 3, ground := Ground.phase }, { on := 4, ground := Ground.phase }, { on := 5, ground := Ground.phase }, { on := 6, ground := Ground.phase }, { on := 7, ground := Ground.phase }, { on := 8, ground := Ground.phase }, { on := 9, ground := Ground.phase }, { on := 10, ground := Ground.phase }, { on := 11, ground := Ground.phase }, { on := 12, ground := Ground.phase }, { on := 13, ground := Ground.phase }, { on := 14, ground := Ground.phase }], guard := none }) (v := ?_) rfl (by kernel_rfl) (by kernel_rfl) (by kernel_rfl) (fun _ _ _ h => h) (Or.inl ⟨rfl, ?_⟩) hHeld ?_
      rotate_left
      · (intro wz hSw; go_simp; try with_reducible rfl)
      try simp only [Act.put, List.setIfInBounds_toArray, List.set_cons_zero, List.set_cons_succ]
      refine wpAnyH_done (by kernel_rfl) ?_ _
      go_wp2
      go_ret
      exact ⟨rfl, hB.out⟩
end Go.Proofs.Ytldehcpdeeilnaa
