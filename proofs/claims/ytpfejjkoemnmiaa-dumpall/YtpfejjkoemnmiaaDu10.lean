/-
  The contract of the document's Take of package dump.
-/
import Derived.Test.YtpfejjkoemnmiaaDu9
import Derived.Test.YtpfejjkoemnmiaaOb4
namespace Go.Proofs.Ytpfejjkoemnmiaa
open Go.RowKit
set_option linter.unusedVariables false
set_option linter.unusedSimpArgs false
set_option maxRecDepth 100000
theorem Du.go_ten (o : Du.St) (cur : List Int) (bs : List Int) : Du.go o cur (10 :: bs) = match Du.one o cur with | none => none | some o' => Du.go o' [] bs := by
  conv => lhs; unfold Du.go
  rw [if_pos rfl]
  rfl
theorem Du.go_other (o : Du.St) (cur : List Int) {b : Int} (bs : List Int) (h : ¬ b = 10) : Du.go o cur (b :: bs) = Du.go o (cur ++ [b]) bs := by
  conv => lhs; unfold Du.go
  rw [if_neg h]
theorem Du.go_cur {o : Du.St} {cur : List Int} (h : cur ≠ []) : Du.go o cur [] = none := by unfold Du.go; rw [if_neg h]
theorem Du.cur_step {l : List Int} {f i : Nat} {y : Int} (hf : f ≤ i) (hy : l[i]? = some y) : (l.take i).drop f ++ [y] = (l.take (i + 1)).drop f := by
  have hi : i < l.length := by
    rcases Nat.lt_or_ge i l.length with h1 | h1
    · exact h1
    · rw [List.getElem?_eq_none h1] at hy; cases hy
  rw [List.take_add_one, hy, List.drop_append_of_le_length (by rw [List.length_take]; omega)]
  rfl
set_option maxHeartbeats 4000000 in
set_option maxRecDepth 100000 in
theorem Du.rtake_any (s : ByteArray) (hs : s.size ≤ 1000000) (w : World) :
    Calls Try.prog 14 #[.string s] w fun e w' => Fi.TakeR w w' e (Du.take (L.bs s)) := by
  have hl := L.bs_len s
  obtain ⟨X, hXe⟩ : ∃ X, Du.take (L.bs s) = X := ⟨_, rfl⟩
  rw [hXe]
  replace hXe := Lib.hid hXe
  have hA1 := ((Kept.refl w).alloc #[.slice none 0 0, .slice none 0 0, .slice none 0 0] 26).below
  have hG1 := Has.new #[.slice none 0 0, .slice none 0 0, .slice none 0 0] 26 w
  have hA2 := ((Kept.refl (w.alloc (.cells #[.slice none 0 0, .slice none 0 0, .slice none 0 0] 26))).alloc #[.slice none 0 0, .slice none 0 0, .slice none 0 0] 26).below
  have hz1 : (w.alloc (.cells #[.slice none 0 0, .slice none 0 0, .slice none 0 0] 26)).heap.size = w.heap.size + 1 := by simp
  have hO0 := Has.new #[.slice none 0 0, .slice none 0 0, .slice none 0 0] 26 (w.alloc (.cells #[.slice none 0 0, .slice none 0 0, .slice none 0 0] 26))
  rw [hz1] at hO0
  replace hO0 := Lib.hid hO0
  have hB := Lib.hid (hA1.trans (hA2.mono hA1.size))
  have hG := Lib.hid (hG1.below hA2)
  clear hG1 hA1 hA2 hz1
  go_enter Try.func14, Try.ntmps14
  go_wp2_with (first
    | (with_reducible refine want_do (o := ⟨some 9, _, _, _, _, _⟩) rfl (Fi.exec26 rfl) ?_)
    | (with_reducible refine store_last (o := ⟨none, _, _, _, _, _⟩) rfl 26 (.tmp 4) (.tmp 9) rfl _ #[.slice none 0 0, .slice none 0 0, .slice none 0 0] rfl rfl (by simp) (Ob.info26 _ _ _) rfl (Ob.oneS _ _ _ _ _ _ _ _ _) ?_)
    | fail)
  have hE0 := Lib.hid (show Below (w.heap.size + 1) ((w.alloc (.cells #[.slice none 0 0, .slice none 0 0, .slice none 0 0] 26)).alloc (.cells #[.slice none 0 0, .slice none 0 0, .slice none 0 0] 26)) ((w.alloc (.cells #[.slice none 0 0, .slice none 0 0, .slice none 0 0] 26)).alloc (.cells #[.slice none 0 0, .slice none 0 0, .slice none 0 0] 26)) from Below.refl _ _)
  have hlow : w.heap.size ≤ w.heap.size + 1 := Nat.le_succ _
  generalize (w.alloc (.cells #[.slice none 0 0, .slice none 0 0, .slice none 0 0] 26)).alloc (.cells #[.slice none 0 0, .slice none 0 0, .slice none 0 0] 26) = w2 at *
  have hGlt := hG.out.lt
  have hOd := Lib.hid (show w.heap.size < w.heap.size + 1 from Nat.lt_succ_self _)
  generalize w.heap.size + 1 = O at *
  have hGO : ∀ v, Below O w2 v → Has w.heap.size #[.slice none 0 0, .slice none 0 0, .slice none 0 0] 26 v := fun v hv => (hv.block w.heap.size (by have := hOd.out; omega)).trans hG.out
  have hBO : ∀ v, Below O w2 v → Below w.heap.size w v := fun v hv => hB.out.trans (hv.mono hlow)
  replace hGO := Lib.hid hGO
  replace hBO := Lib.hid hBO
  clear hG hB hOd hGlt
  go_loopw [5, 6] (fun x y wr => ∃ (f i : Nat) (W S : List Int) (Y : List Ob.Y) (A : Option Addr) (n c : Nat) (B : Option Addr) (m d : Nat) (C : Option Addr) (k e : Nat), f ≤ i ∧ i ≤ s.size ∧ x = .int .i64 f ∧ y = .int .i64 i ∧ Has O #[.slice A n c, .slice B m d, .slice C k e] 26 wr ∧ On 37 .u32 (O + 1) A n c W wr ∧ On 3 .i64 (O + 1) B m d S wr ∧ Os 54 (O + 1) C k e Y wr ∧ Below O w2 wr ∧ Du.go ([], [], []) [] (L.bs s) = Du.go (W, S, Y) (((L.bs s).take i).drop f) ((L.bs s).drop i) ∧ W.length ≤ i ∧ S.length ≤ i ∧ Y.length ≤ i ∧ Du.Inv (W, S, Y)) (fun _ y _ => s.size - (intOf y).toNat)
  case atStart => exact ⟨0, 0, [], [], [], none, 0, 0, none, 0, 0, none, 0, 0, Nat.le_refl _, Nat.zero_le _, rfl, rfl, hO0.out, On.none _ _ _ _, On.none _ _ _ _, Os.none _ _ _, hE0.out, rfl, Nat.zero_le _, Nat.zero_le _, Nat.zero_le _, Du.inv0⟩
  case round =>
    clear hO0 hE0
    obtain ⟨f, i, W, S, Y, A, n, c, B, m, d, C, k, e, hfi, his, rfl, rfl, hO, hP, hQ, hY, hE, hgo, l1, l2, l3, hI⟩ := hrel
    by_cases d1 : i < s.size
    · have d2 : (i : Int) < s.size := by omega
      obtain ⟨y, hy⟩ : ∃ y, (L.bs s)[i]? = some y := ⟨_, List.getElem?_eq_getElem (by omega)⟩
      obtain ⟨hk, hyb⟩ := L.at_of hy
      have hdr := Du.drop_at d1
      rw [hyb] at hdr
      rw [hdr] at hgo
      by_cases c10 : y = 10
      · have z1 : (y == 10) = true := by simpa using c10
        have z2 : (y != 10) = false := by simpa using c10
        rw [c10, Du.go_ten] at hgo
        have hcur : L.bs (s.extract f i) = ((L.bs s).take i).drop f := by rw [Du.bs_extract, List.drop_take]
        have hsz : (s.extract f i).size ≤ 1000000 := by rw [← L.bs_len, Du.bs_extract]; simp; omega
        replace hP := Lib.hid hP
        replace hQ := Lib.hid hQ
        replace hY := Lib.hid hY
        replace hE := Lib.hid hE
        replace hO := Lib.hid hO
        have hfs : (f : Int) ≤ i := by omega
        have his2 : (i : Int) ≤ s.size := by omega
        have hcb : L.Byt (((L.bs s).take i).drop f) := fun x hx => L.bs_rng s x (List.mem_of_mem_take (List.mem_of_mem_drop hx))
        cases hone : Du.one (W, S, Y) (((L.bs s).take i).drop f) with
        | none =>
          rw [hone] at hgo
          have X1 := hXe.out.symm.trans (Du.take_none hgo)
          subst X1
          clear hXe hI hgo hdr hy
          go_wp2_with (fail)
          refine wp_region_held_drew (S := fun w' => Has O #[.slice A n c, .slice B m d, .slice C k e] 26 w' ∧ Below O w2 w') (by kernel_rfl) ⟨hO.out.drew, hE.out.drew⟩ (fun hHeld => ?_)
          replace hP := Lib.hid (show On 37 .u32 (O + 1) A n c W wr.drew from hP.out)
          replace hQ := Lib.hid (show On 3 .i64 (O + 1) B m d S wr.drew from hQ.out)
          replace hY := Lib.hid hY.out.drew
          clear hE hO
          revert hHeld hP hQ hY
          generalize wr.drew = v0
          intro hHeld hP hQ hY
          refine wpAnyH_take (i := 0) (oi := { dst := some 21, op := Op.load 26 (Operand.tmp 4), type := 26, pos := "ref.go:96", after := #[], guard := none }) (v := ?_) rfl (by kernel_rfl) (by kernel_rfl) (by kernel_rfl) (fun _ _ _ h => h) (Or.inl ⟨rfl, ?_⟩) hHeld ?_
          rotate_left
          · (intro wz hSw; have o0 := hSw.1.cell 0 (.slice A n c) rfl; have o1 := hSw.1.cell 1 (.slice B m d) rfl; have o2 := hSw.1.cell 2 (.slice C k e) rfl; go_simp; try with_reducible rfl)
          try simp only [Act.put, List.setIfInBounds_toArray, List.set_cons_zero, List.set_cons_succ]
          refine wpAnyH_take (i := 1) (oi := { dst := some 22, op := Op.move (Operand.tmp 0), type := 9, pos := "ref.go:96", after := #[], guard := none }) (v := ?_) rfl (by kernel_rfl) (by kernel_rfl) (by kernel_rfl) (fun _ _ _ h => h) (Or.inl ⟨rfl, ?_⟩) hHeld ?_
          rotate_left
          · (intro wz hSw; (try dsimp only at hSw); go_simp; try with_reducible rfl)
          try simp only [Act.put, List.setIfInBounds_toArray, List.set_cons_zero, List.set_cons_succ]
          refine wpAnyH_take (i := 2) (oi := { dst := some 23, op := Op.move (Operand.tmp 5), type := 3, pos := "ref.go:96", after := #[], guard := none }) (v := ?_) rfl (by kernel_rfl) (by kernel_rfl) (by kernel_rfl) (fun _ _ _ h => h) (Or.inl ⟨rfl, ?_⟩) hHeld ?_
          rotate_left
          · (intro wz hSw; (try dsimp only at hSw); go_simp; try with_reducible rfl)
          try simp only [Act.put, List.setIfInBounds_toArray, List.set_cons_zero, List.set_cons_succ]
          refine wpAnyH_take (i := 3) (oi := { dst := some 24, op := Op.move (Operand.tmp 6), type := 3, pos := "ref.go:96", after := #[], guard := none }) (v := ?_) rfl (by kernel_rfl) (by kernel_rfl) (by kernel_rfl) (fun _ _ _ h => h) (Or.inl ⟨rfl, ?_⟩) hHeld ?_
          rotate_left
          · (intro wz hSw; (try dsimp only at hSw); go_simp; try with_reducible rfl)
          try simp only [Act.put, List.setIfInBounds_toArray, List.set_cons_zero, List.set_cons_succ]
          refine wpAnyH_take (i := 4) (oi := { dst := some 25, op := Op.slice 9 (Operand.tmp 22) (some (Operand.tmp 23)) (some (Operand.tmp 24)) none, type := 9, pos := "ref.go:96", after := #[{ on := 1, ground := Ground.data }, { on := 2, ground := Ground.data }, { on := 3, ground := Ground.data }], guard := none }) (v := ?_) rfl (by kernel_rfl) (by kernel_rfl) (by kernel_rfl) (fun _ _ _ h => h) (Or.inl ⟨rfl, ?_⟩) hHeld ?_
          rotate_left
          · (intro wz hSw; (try dsimp only at hSw); go_simp; try with_reducible rfl)
          try simp only [Act.put, List.setIfInBounds_toArray, List.set_cons_zero, List.set_cons_succ]
          refine wpAnyH_ready (rs := [5, 9]) (by kernel_rfl) (by simp) ?_
          refine AllReadyH.cons (o := { dst := some 26, op := Op.call { callee := Callee.value (Operand.func 30), args := #[Operand.tmp 21, Operand.tmp 25], argTypes := #[26, 9] }, type := 67, pos := "ref.go:96", after := #[{ on := 0, ground := Ground.data }, { on := 4, ground := Ground.data }], guard := none }) rfl (fun K hK => ?_) (AllReadyH.cons (o := { dst := some 7, op := Op.alloc 26, type := 0, pos := "ref.go:96", after := #[], guard := none }) rfl (fun K hK => ?_) (AllReadyH.nil))
          · go_simp
            go_at_call 30
            refine (Du.rone_any hP.out hQ.out hY.out hHeld.1.lt (by omega) (by omega) (by omega) (s.extract f i) hsz).mono ?_
            rintro r v1 ⟨W1, S1, Y1, A1, n1, c1, B1, m1, d1, C1, k1, e1, rfl, hP1, hQ1, hY1, hBe, hOne, hKe⟩
            have hN0 := hKe _ _ hHeld.1
            have hN1 := hHeld.2.trans (hBe.mono (Nat.le_succ O))
            rw [hcur, hone] at hOne
            rw [hcur, hone]
            replace hP1 := Lib.hid hP1
            replace hQ1 := Lib.hid hQ1
            replace hY1 := Lib.hid hY1
            replace hOne := Lib.hid hOne
            clear hBe hKe hP hQ hY
            have hN := (show (fun w' => Has O #[.slice A n c, .slice B m d, .slice C k e] 26 w' ∧ Below O w2 w') _ from ⟨hN0, hN1⟩)
            clear hHeld
            refine hK.out _ _ hN (fun hHeld => ?_)
            clear hK K hN
            try simp only [Act.put, List.setIfInBounds_toArray, List.set_cons_zero, List.set_cons_succ]
            refine wpAnyH_take (i := 6) (oi := { dst := some 20, op := Op.move (Operand.tmp 26), type := 67, pos := "ref.go:96", after := #[{ on := 5, ground := Ground.data }], guard := none }) (v := ?_) rfl (by kernel_rfl) (by kernel_rfl) (by kernel_rfl) (fun _ _ _ h => h) (Or.inl ⟨rfl, ?_⟩) hHeld ?_
            rotate_left
            · (intro wz hSw; (try dsimp only at hSw); go_simp; try with_reducible rfl)
            try simp only [Act.put, List.setIfInBounds_toArray, List.set_cons_zero, List.set_cons_succ]
            refine wpAnyH_take (i := 7) (oi := { dst := some 27, op := Op.extract (Operand.tmp 20) 0, type := 26, pos := "ref.go:96", after := #[{ on := 6, ground := Ground.data }], guard := none }) (v := ?_) rfl (by kernel_rfl) (by kernel_rfl) (by kernel_rfl) (fun _ _ _ h => h) (Or.inl ⟨rfl, ?_⟩) hHeld ?_
            rotate_left
            · (intro wz hSw; (try dsimp only at hSw); go_simp; try with_reducible rfl)
            try simp only [Act.put, List.setIfInBounds_toArray, List.set_cons_zero, List.set_cons_succ]
            refine wpAnyH_take (i := 8) (oi := { dst := some 28, op := Op.extract (Operand.tmp 20) 1, type := 4, pos := "ref.go:96", after := #[{ on := 6, ground := Ground.data }, { on := 10, ground := Ground.gcOnly Departure.lateStores }], guard := none }) (v := ?_) rfl (by kernel_rfl) (by kernel_rfl) (by kernel_rfl) (fun _ _ _ h => h) (Or.inl ⟨rfl, ?_⟩) hHeld ?_
            rotate_left
            · (intro wz hSw; (try dsimp only at hSw); go_simp; try with_reducible rfl)
            try simp only [Act.put, List.setIfInBounds_toArray, List.set_cons_zero, List.set_cons_succ]
            refine wpAnyH_ready (rs := [9]) (by kernel_rfl) (by simp) ?_
            refine AllReadyH.cons (o := { dst := some 7, op := Op.alloc 26, type := 0, pos := "ref.go:96", after := #[], guard := none }) rfl (fun K hK => ?_) (AllReadyH.nil)
            go_simp
            have hA := ((Kept.refl v1).alloc #[.slice none 0 0, .slice none 0 0, .slice none 0 0] 26).below
            have hX := Lib.hid (Has.new #[.slice none 0 0, .slice none 0 0, .slice none 0 0] 26 v1)
            have hN0 := hHeld.1.below hA
            have hN1 := hHeld.2.trans (hA.mono (Nat.le_of_lt hHeld.1.lt))
            have hXO := (show O < v1.heap.size from hHeld.1.lt)
            replace hP1 := Lib.hid (hP1.out.below hA)
            replace hQ1 := Lib.hid (hQ1.out.below hA)
            replace hY1 := Lib.hid (hY1.out.below hA)
            clear hA
            generalize v1.alloc (.cells #[.slice none 0 0, .slice none 0 0, .slice none 0 0] 26) = v2 at hX hN0 hN1 hP1 hQ1 hY1 ⊢
            generalize v1.heap.size = Xb at hX hXO ⊢
            have hN := (show (fun w' => Has O #[.slice A n c, .slice B m d, .slice C k e] 26 w' ∧ Below O w2 w') _ from ⟨hN0, hN1⟩)
            clear hHeld
            refine hK.out _ _ hN (fun hHeld => ?_)
            clear hK K hN
            try simp only [Act.put, List.setIfInBounds_toArray, List.set_cons_zero, List.set_cons_succ]
            refine wpAnyH_ready (rs := [10]) (by kernel_rfl) (by simp) ?_
            refine AllReadyH.cons (o := { dst := none, op := Op.store 26 (Operand.tmp 7) (Operand.tmp 27), type := 0, pos := "ref.go:96", after := #[{ on := 9, ground := Ground.data }, { on := 7, ground := Ground.data }, { on := 5, ground := Ground.chain }, { on := 0, ground := Ground.phase }, { on := 1, ground := Ground.phase }, { on := 2, ground := Ground.phase }, { on := 3, ground := Ground.phase }, { on := 4, ground := Ground.phase }, { on := 5, ground := Ground.phase }, { on := 6, ground := Ground.phase }, { on := 7, ground := Ground.phase }, { on := 8, ground := Ground.textOnly Departure.lateStores }, { on := 9, ground := Ground.phase }], guard := none }) rfl (fun K hK => ?_) (AllReadyH.nil)
            refine wp_store_row 26 (.tmp 7) (.tmp 27) rfl Xb #[.slice A1 n1 c1, .slice B1 m1 d1, .slice C1 k1 e1] rfl rfl 26 _ hX.out (Ob.info26 _ _ _) rfl (Ob.oneS _ _ _ _ _ _ _ _ _) ?_
            have hN0 := hHeld.1.rowOther (Nat.ne_of_lt hXO) #[.slice A1 n1 c1, .slice B1 m1 d1, .slice C1 k1 e1]
            have hN1 := Bel.setRow hHeld.2 (Nat.le_of_lt hXO) #[.slice A1 n1 c1, .slice B1 m1 d1, .slice C1 k1 e1]
            replace hP1 := Lib.hid (hP1.out.otherRow hX.out (by decide) #[.slice A1 n1 c1, .slice B1 m1 d1, .slice C1 k1 e1])
            replace hQ1 := Lib.hid (hQ1.out.otherRow hX.out (by decide) #[.slice A1 n1 c1, .slice B1 m1 d1, .slice C1 k1 e1])
            replace hY1 := Lib.hid (hY1.out.otherRow hX.out (by decide) #[.slice A1 n1 c1, .slice B1 m1 d1, .slice C1 k1 e1])
            replace hX := Lib.hid (hX.out.row #[.slice A1 n1 c1, .slice B1 m1 d1, .slice C1 k1 e1])
            generalize v2.setRow Xb #[.slice A1 n1 c1, .slice B1 m1 d1, .slice C1 k1 e1] = v3 at hX hN0 hN1 hP1 hQ1 hY1 ⊢
            have hN := (show (fun w' => Has O #[.slice A n c, .slice B m d, .slice C k e] 26 w' ∧ Below O w2 w') _ from ⟨hN0, hN1⟩)
            clear hHeld
            refine hK.out _ _ hN (fun hHeld => ?_)
            clear hK K hN
            try simp only [Act.put, List.setIfInBounds_toArray, List.set_cons_zero, List.set_cons_succ]
            refine wpAnyH_take (i := 11) (oi := { dst := some 8, op := Op.assign (Operand.tmp 28), type := 4, pos := "ref.go:96", after := #[{ on := 8, ground := Ground.data }, { on := 10, ground := Ground.chain }, { on := 0, ground := Ground.phase }, { on := 1, ground := Ground.phase }, { on := 2, ground := Ground.phase }, { on := 3, ground := Ground.phase }, { on := 4, ground := Ground.phase }, { on := 5, ground := Ground.phase }, { on := 6, ground := Ground.phase }, { on := 7, ground := Ground.phase }, { on := 8, ground := Ground.phase }, { on := 9, ground := Ground.phase }, { on := 10, ground := Ground.phase }], guard := none }) (v := ?_) rfl (by kernel_rfl) (by kernel_rfl) (by kernel_rfl) (fun _ _ _ h => h) (Or.inl ⟨rfl, ?_⟩) hHeld ?_
            rotate_left
            · (intro wz hSw; (try dsimp only at hSw); go_simp; try with_reducible rfl)
            try simp only [Act.put, List.setIfInBounds_toArray, List.set_cons_zero, List.set_cons_succ]
            refine wpAnyH_done (by kernel_rfl) ?_ _
            have hG := Lib.hid (hGO.out _ hHeld.2)
            have hB := Lib.hid (hBO.out _ hHeld.2)
            skip
            clear hHeld hX hP1 hQ1 hY1 hOne hXO hGO hBO
            go_wp2_with (first
              | (with_reducible refine want_do (o := ⟨some 31, _, _, _, _, _⟩) rfl (Fi.exec26 rfl) ?_)
              | (with_reducible refine store_has (o := ⟨none, _, _, _, _, _⟩) rfl 26 (.tmp 2) (.tmp 31) rfl w.heap.size #[.slice none 0 0, .slice none 0 0, .slice none 0 0] rfl rfl hG.out (Ob.info26 _ _ _) rfl (Ob.oneS _ _ _ _ _ _ _ _ _) ?_)
              | fail)
            refine bodyPost_ret (results_has2 rfl w.heap.size rfl (hG.out.row _) Try.underlying26 rfl (Ob.info26 _ _ _)) rfl ?_
            exact Fi.takeR_err rfl (Bel.setRow hB.out (Nat.le_refl _) _)
          · go_simp
            have hA := ((Kept.refl v0).alloc #[.slice none 0 0, .slice none 0 0, .slice none 0 0] 26).below
            have hX := Lib.hid (Has.new #[.slice none 0 0, .slice none 0 0, .slice none 0 0] 26 v0)
            have hN0 := hHeld.1.below hA
            have hN1 := hHeld.2.trans (hA.mono (Nat.le_of_lt hHeld.1.lt))
            have hXO := (show O < v0.heap.size from hHeld.1.lt)
            replace hP := Lib.hid (hP.out.below hA)
            replace hQ := Lib.hid (hQ.out.below hA)
            replace hY := Lib.hid (hY.out.below hA)
            clear hA
            generalize v0.alloc (.cells #[.slice none 0 0, .slice none 0 0, .slice none 0 0] 26) = v1 at hX hN0 hN1 hP hQ hY ⊢
            generalize v0.heap.size = Xb at hX hXO ⊢
            have hN := (show (fun w' => Has O #[.slice A n c, .slice B m d, .slice C k e] 26 w' ∧ Below O w2 w') _ from ⟨hN0, hN1⟩)
            clear hHeld
            refine hK.out _ _ hN (fun hHeld => ?_)
            clear hK K hN
            try simp only [Act.put, List.setIfInBounds_toArray, List.set_cons_zero, List.set_cons_succ]
            refine wpAnyH_ready (rs := [5]) (by kernel_rfl) (by simp) ?_
            refine AllReadyH.cons (o := { dst := some 26, op := Op.call { callee := Callee.value (Operand.func 30), args := #[Operand.tmp 21, Operand.tmp 25], argTypes := #[26, 9] }, type := 67, pos := "ref.go:96", after := #[{ on := 0, ground := Ground.data }, { on := 4, ground := Ground.data }], guard := none }) rfl (fun K hK => ?_) (AllReadyH.nil)
            go_simp
            go_at_call 30
            refine (Du.rone_any hP.out hQ.out hY.out hHeld.1.lt (by omega) (by omega) (by omega) (s.extract f i) hsz).mono ?_
            rintro r v2 ⟨W1, S1, Y1, A1, n1, c1, B1, m1, d1, C1, k1, e1, rfl, hP1, hQ1, hY1, hBe, hOne, hKe⟩
            have hN0 := hKe _ _ hHeld.1
            have hN1 := hHeld.2.trans (hBe.mono (Nat.le_succ O))
            replace hX := Lib.hid (hKe _ _ hX.out)
            rw [hcur, hone] at hOne
            rw [hcur, hone]
            replace hP1 := Lib.hid hP1
            replace hQ1 := Lib.hid hQ1
            replace hY1 := Lib.hid hY1
            replace hOne := Lib.hid hOne
            clear hBe hKe hP hQ hY
            have hN := (show (fun w' => Has O #[.slice A n c, .slice B m d, .slice C k e] 26 w' ∧ Below O w2 w') _ from ⟨hN0, hN1⟩)
            clear hHeld
            refine hK.out _ _ hN (fun hHeld => ?_)
            clear hK K hN
            try simp only [Act.put, List.setIfInBounds_toArray, List.set_cons_zero, List.set_cons_succ]
            refine wpAnyH_take (i := 6) (oi := { dst := some 20, op := Op.move (Operand.tmp 26), type := 67, pos := "ref.go:96", after := #[{ on := 5, ground := Ground.data }], guard := none }) (v := ?_) rfl (by kernel_rfl) (by kernel_rfl) (by kernel_rfl) (fun _ _ _ h => h) (Or.inl ⟨rfl, ?_⟩) hHeld ?_
            rotate_left
            · (intro wz hSw; (try dsimp only at hSw); go_simp; try with_reducible rfl)
            try simp only [Act.put, List.setIfInBounds_toArray, List.set_cons_zero, List.set_cons_succ]
            refine wpAnyH_take (i := 7) (oi := { dst := some 27, op := Op.extract (Operand.tmp 20) 0, type := 26, pos := "ref.go:96", after := #[{ on := 6, ground := Ground.data }], guard := none }) (v := ?_) rfl (by kernel_rfl) (by kernel_rfl) (by kernel_rfl) (fun _ _ _ h => h) (Or.inl ⟨rfl, ?_⟩) hHeld ?_
            rotate_left
            · (intro wz hSw; (try dsimp only at hSw); go_simp; try with_reducible rfl)
            try simp only [Act.put, List.setIfInBounds_toArray, List.set_cons_zero, List.set_cons_succ]
            refine wpAnyH_take (i := 8) (oi := { dst := some 28, op := Op.extract (Operand.tmp 20) 1, type := 4, pos := "ref.go:96", after := #[{ on := 6, ground := Ground.data }, { on := 10, ground := Ground.gcOnly Departure.lateStores }], guard := none }) (v := ?_) rfl (by kernel_rfl) (by kernel_rfl) (by kernel_rfl) (fun _ _ _ h => h) (Or.inl ⟨rfl, ?_⟩) hHeld ?_
            rotate_left
            · (intro wz hSw; (try dsimp only at hSw); go_simp; try with_reducible rfl)
            try simp only [Act.put, List.setIfInBounds_toArray, List.set_cons_zero, List.set_cons_succ]
            refine wpAnyH_ready (rs := [10]) (by kernel_rfl) (by simp) ?_
            refine AllReadyH.cons (o := { dst := none, op := Op.store 26 (Operand.tmp 7) (Operand.tmp 27), type := 0, pos := "ref.go:96", after := #[{ on := 9, ground := Ground.data }, { on := 7, ground := Ground.data }, { on := 5, ground := Ground.chain }, { on := 0, ground := Ground.phase }, { on := 1, ground := Ground.phase }, { on := 2, ground := Ground.phase }, { on := 3, ground := Ground.phase }, { on := 4, ground := Ground.phase }, { on := 5, ground := Ground.phase }, { on := 6, ground := Ground.phase }, { on := 7, ground := Ground.phase }, { on := 8, ground := Ground.textOnly Departure.lateStores }, { on := 9, ground := Ground.phase }], guard := none }) rfl (fun K hK => ?_) (AllReadyH.nil)
            refine wp_store_row 26 (.tmp 7) (.tmp 27) rfl Xb #[.slice A1 n1 c1, .slice B1 m1 d1, .slice C1 k1 e1] rfl rfl 26 _ hX.out (Ob.info26 _ _ _) rfl (Ob.oneS _ _ _ _ _ _ _ _ _) ?_
            have hN0 := hHeld.1.rowOther (Nat.ne_of_lt hXO) #[.slice A1 n1 c1, .slice B1 m1 d1, .slice C1 k1 e1]
            have hN1 := Bel.setRow hHeld.2 (Nat.le_of_lt hXO) #[.slice A1 n1 c1, .slice B1 m1 d1, .slice C1 k1 e1]
            replace hP1 := Lib.hid (hP1.out.otherRow hX.out (by decide) #[.slice A1 n1 c1, .slice B1 m1 d1, .slice C1 k1 e1])
            replace hQ1 := Lib.hid (hQ1.out.otherRow hX.out (by decide) #[.slice A1 n1 c1, .slice B1 m1 d1, .slice C1 k1 e1])
            replace hY1 := Lib.hid (hY1.out.otherRow hX.out (by decide) #[.slice A1 n1 c1, .slice B1 m1 d1, .slice C1 k1 e1])
            replace hX := Lib.hid (hX.out.row #[.slice A1 n1 c1, .slice B1 m1 d1, .slice C1 k1 e1])
            generalize v2.setRow Xb #[.slice A1 n1 c1, .slice B1 m1 d1, .slice C1 k1 e1] = v3 at hX hN0 hN1 hP1 hQ1 hY1 ⊢
            have hN := (show (fun w' => Has O #[.slice A n c, .slice B m d, .slice C k e] 26 w' ∧ Below O w2 w') _ from ⟨hN0, hN1⟩)
            clear hHeld
            refine hK.out _ _ hN (fun hHeld => ?_)
            clear hK K hN
            try simp only [Act.put, List.setIfInBounds_toArray, List.set_cons_zero, List.set_cons_succ]
            refine wpAnyH_take (i := 11) (oi := { dst := some 8, op := Op.assign (Operand.tmp 28), type := 4, pos := "ref.go:96", after := #[{ on := 8, ground := Ground.data }, { on := 10, ground := Ground.chain }, { on := 0, ground := Ground.phase }, { on := 1, ground := Ground.phase }, { on := 2, ground := Ground.phase }, { on := 3, ground := Ground.phase }, { on := 4, ground := Ground.phase }, { on := 5, ground := Ground.phase }, { on := 6, ground := Ground.phase }, { on := 7, ground := Ground.phase }, { on := 8, ground := Ground.phase }, { on := 9, ground := Ground.phase }, { on := 10, ground := Ground.phase }], guard := none }) (v := ?_) rfl (by kernel_rfl) (by kernel_rfl) (by kernel_rfl) (fun _ _ _ h => h) (Or.inl ⟨rfl, ?_⟩) hHeld ?_
            rotate_left
            · (intro wz hSw; (try dsimp only at hSw); go_simp; try with_reducible rfl)
            try simp only [Act.put, List.setIfInBounds_toArray, List.set_cons_zero, List.set_cons_succ]
            refine wpAnyH_done (by kernel_rfl) ?_ _
            have hG := Lib.hid (hGO.out _ hHeld.2)
            have hB := Lib.hid (hBO.out _ hHeld.2)
            skip
            clear hHeld hX hP1 hQ1 hY1 hOne hXO hGO hBO
            go_wp2_with (first
              | (with_reducible refine want_do (o := ⟨some 31, _, _, _, _, _⟩) rfl (Fi.exec26 rfl) ?_)
              | (with_reducible refine store_has (o := ⟨none, _, _, _, _, _⟩) rfl 26 (.tmp 2) (.tmp 31) rfl w.heap.size #[.slice none 0 0, .slice none 0 0, .slice none 0 0] rfl rfl hG.out (Ob.info26 _ _ _) rfl (Ob.oneS _ _ _ _ _ _ _ _ _) ?_)
              | fail)
            refine bodyPost_ret (results_has2 rfl w.heap.size rfl (hG.out.row _) Try.underlying26 rfl (Ob.info26 _ _ _)) rfl ?_
            exact Fi.takeR_err rfl (Bel.setRow hB.out (Nat.le_refl _) _)
        | some o2 =>
          obtain ⟨W2, S2, Y2⟩ := o2
          rw [hone] at hgo
          have hI' := (Du.one_some hcb hI hone).2.1
          obtain ⟨p1, p2, p3⟩ := Du.one_grow hcb hone
          replace p1 : W2.length ≤ W.length + 1 := p1
          replace p2 : S2.length ≤ S.length + 1 := p2
          replace p3 : Y2.length ≤ Y.length + 1 := p3
          have hgo : Du.go ([], [], []) [] (L.bs s) = Du.go (W2, S2, Y2) (((L.bs s).take (i + 1)).drop (i + 1)) ((L.bs s).drop (i + 1)) := by
            rw [hgo, List.drop_of_length_le (l := (L.bs s).take (i + 1)) (by rw [List.length_take]; omega)]
          replace hgo := Lib.hid hgo
          clear hI hdr hy
          go_wp2_with (fail)
          refine wp_region_held_drew (S := fun w' => Has O #[.slice A n c, .slice B m d, .slice C k e] 26 w' ∧ Below O w2 w') (by kernel_rfl) ⟨hO.out.drew, hE.out.drew⟩ (fun hHeld => ?_)
          replace hP := Lib.hid (show On 37 .u32 (O + 1) A n c W wr.drew from hP.out)
          replace hQ := Lib.hid (show On 3 .i64 (O + 1) B m d S wr.drew from hQ.out)
          replace hY := Lib.hid hY.out.drew
          clear hE hO
          revert hHeld hP hQ hY
          generalize wr.drew = v0
          intro hHeld hP hQ hY
          refine wpAnyH_take (i := 0) (oi := { dst := some 21, op := Op.load 26 (Operand.tmp 4), type := 26, pos := "ref.go:96", after := #[], guard := none }) (v := ?_) rfl (by kernel_rfl) (by kernel_rfl) (by kernel_rfl) (fun _ _ _ h => h) (Or.inl ⟨rfl, ?_⟩) hHeld ?_
          rotate_left
          · (intro wz hSw; have o0 := hSw.1.cell 0 (.slice A n c) rfl; have o1 := hSw.1.cell 1 (.slice B m d) rfl; have o2 := hSw.1.cell 2 (.slice C k e) rfl; go_simp; try with_reducible rfl)
          try simp only [Act.put, List.setIfInBounds_toArray, List.set_cons_zero, List.set_cons_succ]
          refine wpAnyH_take (i := 1) (oi := { dst := some 22, op := Op.move (Operand.tmp 0), type := 9, pos := "ref.go:96", after := #[], guard := none }) (v := ?_) rfl (by kernel_rfl) (by kernel_rfl) (by kernel_rfl) (fun _ _ _ h => h) (Or.inl ⟨rfl, ?_⟩) hHeld ?_
          rotate_left
          · (intro wz hSw; (try dsimp only at hSw); go_simp; try with_reducible rfl)
          try simp only [Act.put, List.setIfInBounds_toArray, List.set_cons_zero, List.set_cons_succ]
          refine wpAnyH_take (i := 2) (oi := { dst := some 23, op := Op.move (Operand.tmp 5), type := 3, pos := "ref.go:96", after := #[], guard := none }) (v := ?_) rfl (by kernel_rfl) (by kernel_rfl) (by kernel_rfl) (fun _ _ _ h => h) (Or.inl ⟨rfl, ?_⟩) hHeld ?_
          rotate_left
          · (intro wz hSw; (try dsimp only at hSw); go_simp; try with_reducible rfl)
          try simp only [Act.put, List.setIfInBounds_toArray, List.set_cons_zero, List.set_cons_succ]
          refine wpAnyH_take (i := 3) (oi := { dst := some 24, op := Op.move (Operand.tmp 6), type := 3, pos := "ref.go:96", after := #[], guard := none }) (v := ?_) rfl (by kernel_rfl) (by kernel_rfl) (by kernel_rfl) (fun _ _ _ h => h) (Or.inl ⟨rfl, ?_⟩) hHeld ?_
          rotate_left
          · (intro wz hSw; (try dsimp only at hSw); go_simp; try with_reducible rfl)
          try simp only [Act.put, List.setIfInBounds_toArray, List.set_cons_zero, List.set_cons_succ]
          refine wpAnyH_take (i := 4) (oi := { dst := some 25, op := Op.slice 9 (Operand.tmp 22) (some (Operand.tmp 23)) (some (Operand.tmp 24)) none, type := 9, pos := "ref.go:96", after := #[{ on := 1, ground := Ground.data }, { on := 2, ground := Ground.data }, { on := 3, ground := Ground.data }], guard := none }) (v := ?_) rfl (by kernel_rfl) (by kernel_rfl) (by kernel_rfl) (fun _ _ _ h => h) (Or.inl ⟨rfl, ?_⟩) hHeld ?_
          rotate_left
          · (intro wz hSw; (try dsimp only at hSw); go_simp; try with_reducible rfl)
          try simp only [Act.put, List.setIfInBounds_toArray, List.set_cons_zero, List.set_cons_succ]
          refine wpAnyH_ready (rs := [5, 9]) (by kernel_rfl) (by simp) ?_
          refine AllReadyH.cons (o := { dst := some 26, op := Op.call { callee := Callee.value (Operand.func 30), args := #[Operand.tmp 21, Operand.tmp 25], argTypes := #[26, 9] }, type := 67, pos := "ref.go:96", after := #[{ on := 0, ground := Ground.data }, { on := 4, ground := Ground.data }], guard := none }) rfl (fun K hK => ?_) (AllReadyH.cons (o := { dst := some 7, op := Op.alloc 26, type := 0, pos := "ref.go:96", after := #[], guard := none }) rfl (fun K hK => ?_) (AllReadyH.nil))
          · go_simp
            go_at_call 30
            refine (Du.rone_any hP.out hQ.out hY.out hHeld.1.lt (by omega) (by omega) (by omega) (s.extract f i) hsz).mono ?_
            rintro r v1 ⟨W1, S1, Y1, A1, n1, c1, B1, m1, d1, C1, k1, e1, rfl, hP1, hQ1, hY1, hBe, hOne, hKe⟩
            have hN0 := hKe _ _ hHeld.1
            have hN1 := hHeld.2.trans (hBe.mono (Nat.le_succ O))
            rw [hcur, hone] at hOne
            rw [hcur, hone]
            replace hP1 := Lib.hid hP1
            replace hQ1 := Lib.hid hQ1
            replace hY1 := Lib.hid hY1
            replace hOne := Lib.hid hOne
            clear hBe hKe hP hQ hY
            have hN := (show (fun w' => Has O #[.slice A n c, .slice B m d, .slice C k e] 26 w' ∧ Below O w2 w') _ from ⟨hN0, hN1⟩)
            clear hHeld
            refine hK.out _ _ hN (fun hHeld => ?_)
            clear hK K hN
            try simp only [Act.put, List.setIfInBounds_toArray, List.set_cons_zero, List.set_cons_succ]
            refine wpAnyH_take (i := 6) (oi := { dst := some 20, op := Op.move (Operand.tmp 26), type := 67, pos := "ref.go:96", after := #[{ on := 5, ground := Ground.data }], guard := none }) (v := ?_) rfl (by kernel_rfl) (by kernel_rfl) (by kernel_rfl) (fun _ _ _ h => h) (Or.inl ⟨rfl, ?_⟩) hHeld ?_
            rotate_left
            · (intro wz hSw; (try dsimp only at hSw); go_simp; try with_reducible rfl)
            try simp only [Act.put, List.setIfInBounds_toArray, List.set_cons_zero, List.set_cons_succ]
            refine wpAnyH_take (i := 7) (oi := { dst := some 27, op := Op.extract (Operand.tmp 20) 0, type := 26, pos := "ref.go:96", after := #[{ on := 6, ground := Ground.data }], guard := none }) (v := ?_) rfl (by kernel_rfl) (by kernel_rfl) (by kernel_rfl) (fun _ _ _ h => h) (Or.inl ⟨rfl, ?_⟩) hHeld ?_
            rotate_left
            · (intro wz hSw; (try dsimp only at hSw); go_simp; try with_reducible rfl)
            try simp only [Act.put, List.setIfInBounds_toArray, List.set_cons_zero, List.set_cons_succ]
            refine wpAnyH_take (i := 8) (oi := { dst := some 28, op := Op.extract (Operand.tmp 20) 1, type := 4, pos := "ref.go:96", after := #[{ on := 6, ground := Ground.data }, { on := 10, ground := Ground.gcOnly Departure.lateStores }], guard := none }) (v := ?_) rfl (by kernel_rfl) (by kernel_rfl) (by kernel_rfl) (fun _ _ _ h => h) (Or.inl ⟨rfl, ?_⟩) hHeld ?_
            rotate_left
            · (intro wz hSw; (try dsimp only at hSw); go_simp; try with_reducible rfl)
            try simp only [Act.put, List.setIfInBounds_toArray, List.set_cons_zero, List.set_cons_succ]
            refine wpAnyH_ready (rs := [9]) (by kernel_rfl) (by simp) ?_
            refine AllReadyH.cons (o := { dst := some 7, op := Op.alloc 26, type := 0, pos := "ref.go:96", after := #[], guard := none }) rfl (fun K hK => ?_) (AllReadyH.nil)
            go_simp
            have hA := ((Kept.refl v1).alloc #[.slice none 0 0, .slice none 0 0, .slice none 0 0] 26).below
            have hX := Lib.hid (Has.new #[.slice none 0 0, .slice none 0 0, .slice none 0 0] 26 v1)
            have hN0 := hHeld.1.below hA
            have hN1 := hHeld.2.trans (hA.mono (Nat.le_of_lt hHeld.1.lt))
            have hXO := (show O < v1.heap.size from hHeld.1.lt)
            replace hP1 := Lib.hid (hP1.out.below hA)
            replace hQ1 := Lib.hid (hQ1.out.below hA)
            replace hY1 := Lib.hid (hY1.out.below hA)
            clear hA
            generalize v1.alloc (.cells #[.slice none 0 0, .slice none 0 0, .slice none 0 0] 26) = v2 at hX hN0 hN1 hP1 hQ1 hY1 ⊢
            generalize v1.heap.size = Xb at hX hXO ⊢
            have hN := (show (fun w' => Has O #[.slice A n c, .slice B m d, .slice C k e] 26 w' ∧ Below O w2 w') _ from ⟨hN0, hN1⟩)
            clear hHeld
            refine hK.out _ _ hN (fun hHeld => ?_)
            clear hK K hN
            try simp only [Act.put, List.setIfInBounds_toArray, List.set_cons_zero, List.set_cons_succ]
            refine wpAnyH_ready (rs := [10]) (by kernel_rfl) (by simp) ?_
            refine AllReadyH.cons (o := { dst := none, op := Op.store 26 (Operand.tmp 7) (Operand.tmp 27), type := 0, pos := "ref.go:96", after := #[{ on := 9, ground := Ground.data }, { on := 7, ground := Ground.data }, { on := 5, ground := Ground.chain }, { on := 0, ground := Ground.phase }, { on := 1, ground := Ground.phase }, { on := 2, ground := Ground.phase }, { on := 3, ground := Ground.phase }, { on := 4, ground := Ground.phase }, { on := 5, ground := Ground.phase }, { on := 6, ground := Ground.phase }, { on := 7, ground := Ground.phase }, { on := 8, ground := Ground.textOnly Departure.lateStores }, { on := 9, ground := Ground.phase }], guard := none }) rfl (fun K hK => ?_) (AllReadyH.nil)
            refine wp_store_row 26 (.tmp 7) (.tmp 27) rfl Xb #[.slice A1 n1 c1, .slice B1 m1 d1, .slice C1 k1 e1] rfl rfl 26 _ hX.out (Ob.info26 _ _ _) rfl (Ob.oneS _ _ _ _ _ _ _ _ _) ?_
            have hN0 := hHeld.1.rowOther (Nat.ne_of_lt hXO) #[.slice A1 n1 c1, .slice B1 m1 d1, .slice C1 k1 e1]
            have hN1 := Bel.setRow hHeld.2 (Nat.le_of_lt hXO) #[.slice A1 n1 c1, .slice B1 m1 d1, .slice C1 k1 e1]
            replace hP1 := Lib.hid (hP1.out.otherRow hX.out (by decide) #[.slice A1 n1 c1, .slice B1 m1 d1, .slice C1 k1 e1])
            replace hQ1 := Lib.hid (hQ1.out.otherRow hX.out (by decide) #[.slice A1 n1 c1, .slice B1 m1 d1, .slice C1 k1 e1])
            replace hY1 := Lib.hid (hY1.out.otherRow hX.out (by decide) #[.slice A1 n1 c1, .slice B1 m1 d1, .slice C1 k1 e1])
            replace hX := Lib.hid (hX.out.row #[.slice A1 n1 c1, .slice B1 m1 d1, .slice C1 k1 e1])
            generalize v2.setRow Xb #[.slice A1 n1 c1, .slice B1 m1 d1, .slice C1 k1 e1] = v3 at hX hN0 hN1 hP1 hQ1 hY1 ⊢
            have hN := (show (fun w' => Has O #[.slice A n c, .slice B m d, .slice C k e] 26 w' ∧ Below O w2 w') _ from ⟨hN0, hN1⟩)
            clear hHeld
            refine hK.out _ _ hN (fun hHeld => ?_)
            clear hK K hN
            try simp only [Act.put, List.setIfInBounds_toArray, List.set_cons_zero, List.set_cons_succ]
            refine wpAnyH_take (i := 11) (oi := { dst := some 8, op := Op.assign (Operand.tmp 28), type := 4, pos := "ref.go:96", after := #[{ on := 8, ground := Ground.data }, { on := 10, ground := Ground.chain }, { on := 0, ground := Ground.phase }, { on := 1, ground := Ground.phase }, { on := 2, ground := Ground.phase }, { on := 3, ground := Ground.phase }, { on := 4, ground := Ground.phase }, { on := 5, ground := Ground.phase }, { on := 6, ground := Ground.phase }, { on := 7, ground := Ground.phase }, { on := 8, ground := Ground.phase }, { on := 9, ground := Ground.phase }, { on := 10, ground := Ground.phase }], guard := none }) (v := ?_) rfl (by kernel_rfl) (by kernel_rfl) (by kernel_rfl) (fun _ _ _ h => h) (Or.inl ⟨rfl, ?_⟩) hHeld ?_
            rotate_left
            · (intro wz hSw; (try dsimp only at hSw); go_simp; try with_reducible rfl)
            try simp only [Act.put, List.setIfInBounds_toArray, List.set_cons_zero, List.set_cons_succ]
            refine wpAnyH_done (by kernel_rfl) ?_ _
            obtain ⟨rfl, rfl, rfl⟩ := hOne.out W2 S2 Y2 rfl
            have hHO := Lib.hid hHeld.1
            have hHE := Lib.hid hHeld.2
            clear hOne hHeld
            go_wp2_with (first
              | (with_reducible refine load_has (o := ⟨some 32, _, _, _, _, _⟩) rfl 26 (.tmp 7) rfl Xb rfl hX.out Try.underlying26 rfl (Ob.info26 _ _ _) ?_)
              | (with_reducible refine store_has (o := ⟨none, _, _, _, _, _⟩) rfl 26 (.tmp 4) (.tmp 32) rfl O #[.slice A1 n1 c1, .slice B1 m1 d1, .slice C1 k1 e1] rfl rfl hHO.out (Ob.info26 _ _ _) rfl (Ob.oneS _ _ _ _ _ _ _ _ _) ?_)
              | fail)
            go_roundw
            case rel => exact ⟨i + 1, i + 1, W1, S1, Y1, A1, n1, c1, B1, m1, d1, C1, k1, e1, Nat.le_refl _, by omega, by go_num, by go_num, hHO.out.row _, hP1.out.otherRow hHO.out (by decide) _, hQ1.out.otherRow hHO.out (by decide) _, hY1.out.otherRow hHO.out (by decide) _, Bel.setRow hHE.out (Nat.le_refl _) _, hgo.out, by omega, by omega, by omega, hI'⟩
            case measure => simp [intOf]; omega
          · go_simp
            have hA := ((Kept.refl v0).alloc #[.slice none 0 0, .slice none 0 0, .slice none 0 0] 26).below
            have hX := Lib.hid (Has.new #[.slice none 0 0, .slice none 0 0, .slice none 0 0] 26 v0)
            have hN0 := hHeld.1.below hA
            have hN1 := hHeld.2.trans (hA.mono (Nat.le_of_lt hHeld.1.lt))
            have hXO := (show O < v0.heap.size from hHeld.1.lt)
            replace hP := Lib.hid (hP.out.below hA)
            replace hQ := Lib.hid (hQ.out.below hA)
            replace hY := Lib.hid (hY.out.below hA)
            clear hA
            generalize v0.alloc (.cells #[.slice none 0 0, .slice none 0 0, .slice none 0 0] 26) = v1 at hX hN0 hN1 hP hQ hY ⊢
            generalize v0.heap.size = Xb at hX hXO ⊢
            have hN := (show (fun w' => Has O #[.slice A n c, .slice B m d, .slice C k e] 26 w' ∧ Below O w2 w') _ from ⟨hN0, hN1⟩)
            clear hHeld
            refine hK.out _ _ hN (fun hHeld => ?_)
            clear hK K hN
            try simp only [Act.put, List.setIfInBounds_toArray, List.set_cons_zero, List.set_cons_succ]
            refine wpAnyH_ready (rs := [5]) (by kernel_rfl) (by simp) ?_
            refine AllReadyH.cons (o := { dst := some 26, op := Op.call { callee := Callee.value (Operand.func 30), args := #[Operand.tmp 21, Operand.tmp 25], argTypes := #[26, 9] }, type := 67, pos := "ref.go:96", after := #[{ on := 0, ground := Ground.data }, { on := 4, ground := Ground.data }], guard := none }) rfl (fun K hK => ?_) (AllReadyH.nil)
            go_simp
            go_at_call 30
            refine (Du.rone_any hP.out hQ.out hY.out hHeld.1.lt (by omega) (by omega) (by omega) (s.extract f i) hsz).mono ?_
            rintro r v2 ⟨W1, S1, Y1, A1, n1, c1, B1, m1, d1, C1, k1, e1, rfl, hP1, hQ1, hY1, hBe, hOne, hKe⟩
            have hN0 := hKe _ _ hHeld.1
            have hN1 := hHeld.2.trans (hBe.mono (Nat.le_succ O))
            replace hX := Lib.hid (hKe _ _ hX.out)
            rw [hcur, hone] at hOne
            rw [hcur, hone]
            replace hP1 := Lib.hid hP1
            replace hQ1 := Lib.hid hQ1
            replace hY1 := Lib.hid hY1
            replace hOne := Lib.hid hOne
            clear hBe hKe hP hQ hY
            have hN := (show (fun w' => Has O #[.slice A n c, .slice B m d, .slice C k e] 26 w' ∧ Below O w2 w') _ from ⟨hN0, hN1⟩)
            clear hHeld
            refine hK.out _ _ hN (fun hHeld => ?_)
            clear hK K hN
            try simp only [Act.put, List.setIfInBounds_toArray, List.set_cons_zero, List.set_cons_succ]
            refine wpAnyH_take (i := 6) (oi := { dst := some 20, op := Op.move (Operand.tmp 26), type := 67, pos := "ref.go:96", after := #[{ on := 5, ground := Ground.data }], guard := none }) (v := ?_) rfl (by kernel_rfl) (by kernel_rfl) (by kernel_rfl) (fun _ _ _ h => h) (Or.inl ⟨rfl, ?_⟩) hHeld ?_
            rotate_left
            · (intro wz hSw; (try dsimp only at hSw); go_simp; try with_reducible rfl)
            try simp only [Act.put, List.setIfInBounds_toArray, List.set_cons_zero, List.set_cons_succ]
            refine wpAnyH_take (i := 7) (oi := { dst := some 27, op := Op.extract (Operand.tmp 20) 0, type := 26, pos := "ref.go:96", after := #[{ on := 6, ground := Ground.data }], guard := none }) (v := ?_) rfl (by kernel_rfl) (by kernel_rfl) (by kernel_rfl) (fun _ _ _ h => h) (Or.inl ⟨rfl, ?_⟩) hHeld ?_
            rotate_left
            · (intro wz hSw; (try dsimp only at hSw); go_simp; try with_reducible rfl)
            try simp only [Act.put, List.setIfInBounds_toArray, List.set_cons_zero, List.set_cons_succ]
            refine wpAnyH_take (i := 8) (oi := { dst := some 28, op := Op.extract (Operand.tmp 20) 1, type := 4, pos := "ref.go:96", after := #[{ on := 6, ground := Ground.data }, { on := 10, ground := Ground.gcOnly Departure.lateStores }], guard := none }) (v := ?_) rfl (by kernel_rfl) (by kernel_rfl) (by kernel_rfl) (fun _ _ _ h => h) (Or.inl ⟨rfl, ?_⟩) hHeld ?_
            rotate_left
            · (intro wz hSw; (try dsimp only at hSw); go_simp; try with_reducible rfl)
            try simp only [Act.put, List.setIfInBounds_toArray, List.set_cons_zero, List.set_cons_succ]
            refine wpAnyH_ready (rs := [10]) (by kernel_rfl) (by simp) ?_
            refine AllReadyH.cons (o := { dst := none, op := Op.store 26 (Operand.tmp 7) (Operand.tmp 27), type := 0, pos := "ref.go:96", after := #[{ on := 9, ground := Ground.data }, { on := 7, ground := Ground.data }, { on := 5, ground := Ground.chain }, { on := 0, ground := Ground.phase }, { on := 1, ground := Ground.phase }, { on := 2, ground := Ground.phase }, { on := 3, ground := Ground.phase }, { on := 4, ground := Ground.phase }, { on := 5, ground := Ground.phase }, { on := 6, ground := Ground.phase }, { on := 7, ground := Ground.phase }, { on := 8, ground := Ground.textOnly Departure.lateStores }, { on := 9, ground := Ground.phase }], guard := none }) rfl (fun K hK => ?_) (AllReadyH.nil)
            refine wp_store_row 26 (.tmp 7) (.tmp 27) rfl Xb #[.slice A1 n1 c1, .slice B1 m1 d1, .slice C1 k1 e1] rfl rfl 26 _ hX.out (Ob.info26 _ _ _) rfl (Ob.oneS _ _ _ _ _ _ _ _ _) ?_
            have hN0 := hHeld.1.rowOther (Nat.ne_of_lt hXO) #[.slice A1 n1 c1, .slice B1 m1 d1, .slice C1 k1 e1]
            have hN1 := Bel.setRow hHeld.2 (Nat.le_of_lt hXO) #[.slice A1 n1 c1, .slice B1 m1 d1, .slice C1 k1 e1]
            replace hP1 := Lib.hid (hP1.out.otherRow hX.out (by decide) #[.slice A1 n1 c1, .slice B1 m1 d1, .slice C1 k1 e1])
            replace hQ1 := Lib.hid (hQ1.out.otherRow hX.out (by decide) #[.slice A1 n1 c1, .slice B1 m1 d1, .slice C1 k1 e1])
            replace hY1 := Lib.hid (hY1.out.otherRow hX.out (by decide) #[.slice A1 n1 c1, .slice B1 m1 d1, .slice C1 k1 e1])
            replace hX := Lib.hid (hX.out.row #[.slice A1 n1 c1, .slice B1 m1 d1, .slice C1 k1 e1])
            generalize v2.setRow Xb #[.slice A1 n1 c1, .slice B1 m1 d1, .slice C1 k1 e1] = v3 at hX hN0 hN1 hP1 hQ1 hY1 ⊢
            have hN := (show (fun w' => Has O #[.slice A n c, .slice B m d, .slice C k e] 26 w' ∧ Below O w2 w') _ from ⟨hN0, hN1⟩)
            clear hHeld
            refine hK.out _ _ hN (fun hHeld => ?_)
            clear hK K hN
            try simp only [Act.put, List.setIfInBounds_toArray, List.set_cons_zero, List.set_cons_succ]
            refine wpAnyH_take (i := 11) (oi := { dst := some 8, op := Op.assign (Operand.tmp 28), type := 4, pos := "ref.go:96", after := #[{ on := 8, ground := Ground.data }, { on := 10, ground := Ground.chain }, { on := 0, ground := Ground.phase }, { on := 1, ground := Ground.phase }, { on := 2, ground := Ground.phase }, { on := 3, ground := Ground.phase }, { on := 4, ground := Ground.phase }, { on := 5, ground := Ground.phase }, { on := 6, ground := Ground.phase }, { on := 7, ground := Ground.phase }, { on := 8, ground := Ground.phase }, { on := 9, ground := Ground.phase }, { on := 10, ground := Ground.phase }], guard := none }) (v := ?_) rfl (by kernel_rfl) (by kernel_rfl) (by kernel_rfl) (fun _ _ _ h => h) (Or.inl ⟨rfl, ?_⟩) hHeld ?_
            rotate_left
            · (intro wz hSw; (try dsimp only at hSw); go_simp; try with_reducible rfl)
            try simp only [Act.put, List.setIfInBounds_toArray, List.set_cons_zero, List.set_cons_succ]
            refine wpAnyH_done (by kernel_rfl) ?_ _
            obtain ⟨rfl, rfl, rfl⟩ := hOne.out W2 S2 Y2 rfl
            have hHO := Lib.hid hHeld.1
            have hHE := Lib.hid hHeld.2
            clear hOne hHeld
            go_wp2_with (first
              | (with_reducible refine load_has (o := ⟨some 32, _, _, _, _, _⟩) rfl 26 (.tmp 7) rfl Xb rfl hX.out Try.underlying26 rfl (Ob.info26 _ _ _) ?_)
              | (with_reducible refine store_has (o := ⟨none, _, _, _, _, _⟩) rfl 26 (.tmp 4) (.tmp 32) rfl O #[.slice A1 n1 c1, .slice B1 m1 d1, .slice C1 k1 e1] rfl rfl hHO.out (Ob.info26 _ _ _) rfl (Ob.oneS _ _ _ _ _ _ _ _ _) ?_)
              | fail)
            go_roundw
            case rel => exact ⟨i + 1, i + 1, W1, S1, Y1, A1, n1, c1, B1, m1, d1, C1, k1, e1, Nat.le_refl _, by omega, by go_num, by go_num, hHO.out.row _, hP1.out.otherRow hHO.out (by decide) _, hQ1.out.otherRow hHO.out (by decide) _, hY1.out.otherRow hHO.out (by decide) _, Bel.setRow hHE.out (Nat.le_refl _) _, hgo.out, by omega, by omega, by omega, hI'⟩
            case measure => simp [intOf]; omega
      · have z1 : (y == 10) = false := by simpa using c10
        have z2 : (y != 10) = true := by simpa using c10
        rw [Du.go_other _ _ _ c10, Du.cur_step hfi hy] at hgo
        replace hgo := Lib.hid hgo
        replace hP := Lib.hid hP
        replace hQ := Lib.hid hQ
        replace hY := Lib.hid hY
        replace hE := Lib.hid hE
        replace hO := Lib.hid hO
        replace hI := Lib.hid hI
        clear hdr hy
        go_wp2_with (fail)
        go_roundw
        case rel => exact ⟨f, i + 1, W, S, Y, A, n, c, B, m, d, C, k, e, by omega, by omega, rfl, by go_num, hO.out, hP.out, hQ.out, hY.out, hE.out, hgo.out, by omega, by omega, by omega, hI.out⟩
        case measure => simp [intOf]; omega
    · have d2 : ¬ (i : Int) < s.size := by omega
      obtain rfl : i = s.size := by omega
      rw [List.take_of_length_le (l := L.bs s) (by omega), List.drop_of_length_le (l := L.bs s) (i := s.size) (by omega)] at hgo
      by_cases cf : f = s.size
      case neg =>
        have z1 : ((f : Int) == s.size) = false := by simp; omega
        have z2 : ((f : Int) != s.size) = true := by simp; omega
        rw [Du.go_cur (fun q => by have := congrArg List.length q; rw [List.length_drop, hl, List.length_nil] at this; omega)] at hgo
        have X1 := hXe.out.symm.trans (Du.take_none hgo)
        subst X1
        have hG := Lib.hid (hGO.out _ hE)
        have hB := Lib.hid (hBO.out _ hE)
        clear hXe hI hgo hO hP hQ hY hE hGO hBO
        go_wp2_with (first
          | (with_reducible refine want_do (o := ⟨some 39, _, _, _, _, _⟩) rfl (Fi.exec26 rfl) ?_)
          | (with_reducible refine store_has (o := ⟨none, _, _, _, _, _⟩) rfl 26 (.tmp 2) (.tmp 39) rfl w.heap.size #[.slice none 0 0, .slice none 0 0, .slice none 0 0] rfl rfl hG.out (Ob.info26 _ _ _) rfl (Ob.oneS _ _ _ _ _ _ _ _ _) ?_)
          | fail)
        refine bodyPost_ret (results_has2 rfl w.heap.size rfl (hG.out.row _) Try.underlying26 rfl (Ob.info26 _ _ _)) rfl ?_
        exact Fi.takeR_err rfl (Bel.setRow hB.out (Nat.le_refl _) _)
      have z1 : ((f : Int) == s.size) = true := by simp; omega
      have z2 : ((f : Int) != s.size) = false := by simp; omega
      rw [List.drop_of_length_le (by omega), Du.go_end] at hgo
      have T3 := Lib.hid (fun q => hXe.out.symm.trans (Du.take_bad hgo q))
      have T4 := Lib.hid (fun q => hXe.out.symm.trans (Du.take_good hgo q))
      have hsz : ∀ y ∈ Y, y.1.size ≤ 1000000 := fun y hy => by have := (hI.hY y hy).2; omega
      have hwr := Lib.hid hI.hW
      have hlow2 : O ≤ wr.heap.size := Nat.le_of_lt hO.lt
      have CM := Lib.hid (Ob.rmay_any (hP.rg.rw hwr.out) hQ.rg hY.sy hsz)
      replace hP := Lib.hid hP
      replace hQ := Lib.hid hQ
      replace hY := Lib.hid hY
      replace hE := Lib.hid hE
      replace hO := Lib.hid hO
      clear hgo hI hXe
      go_wp2_with (first
        | (with_reducible refine load_has (o := ⟨some 40, _, _, _, _, _⟩) rfl 26 (.tmp 4) rfl O rfl hO.out Try.underlying26 rfl (Ob.info26 _ _ _) ?_)
        | fail)
      refine CM.out.mono ?_; rintro r w4 ⟨rfl, hE4⟩
      replace hE := Lib.hid (hE.out.trans (hE4.mono hlow2))
      replace hO := Lib.hid (hO.out.below hE4)
      replace hP := Lib.hid (hP.out.below hE4)
      replace hQ := Lib.hid (hQ.out.below hE4)
      replace hY := Lib.hid (hY.out.below hE4)
      have hG := Lib.hid (hGO.out _ hE.out)
      have hB := Lib.hid (hBO.out _ hE.out)
      clear hE4 CM hGO hBO hE
      by_cases cm : Ob.may W S Y = 0
      · have X1 := T4.out cm
        subst X1
        rw [cm]
        clear T3 T4
        go_wp2_with (first
          | (with_reducible refine load_has (o := ⟨some 44, _, _, _, _, _⟩) rfl 26 (.tmp 4) rfl O rfl hO.out Try.underlying26 rfl (Ob.info26 _ _ _) ?_)
          | (with_reducible refine store_has (o := ⟨none, _, _, _, _, _⟩) rfl 26 (.tmp 2) (.tmp 44) rfl w.heap.size #[.slice A n c, .slice B m d, .slice C k e] rfl rfl hG.out (Ob.info26 _ _ _) rfl (Ob.oneS _ _ _ _ _ _ _ _ _) ?_)
          | fail)
        refine bodyPost_ret (results_has2 rfl w.heap.size rfl (hG.out.row _) Try.underlying26 rfl (Ob.info26 _ _ _)) rfl ?_
        refine ⟨A, n, c, B, m, d, C, k, e, rfl, (hP.out.otherRow hG.out (by decide) _).rg.rw hwr.out, (hQ.out.otherRow hG.out (by decide) _).rg, (hY.out.otherRow hG.out (by decide) _).sy, Bel.setRow hB.out (Nat.le_refl _) _⟩
      · have X1 := T3.out cm
        subst X1
        generalize Ob.may W S Y = z at *
        have z3 : (z == 0) = false := by simpa using cm
        have z4 : (z != 0) = true := by simpa using cm
        clear T3 T4 hO hP hQ hY
        go_wp2_with (first
          | (with_reducible refine want_do (o := ⟨some 43, _, _, _, _, _⟩) rfl (Fi.exec26 rfl) ?_)
          | (with_reducible refine store_has (o := ⟨none, _, _, _, _, _⟩) rfl 26 (.tmp 2) (.tmp 43) rfl w.heap.size #[.slice none 0 0, .slice none 0 0, .slice none 0 0] rfl rfl hG.out (Ob.info26 _ _ _) rfl (Ob.oneS _ _ _ _ _ _ _ _ _) ?_)
          | fail)
        refine bodyPost_ret (results_has2 rfl w.heap.size rfl (hG.out.row _) Try.underlying26 rfl (Ob.info26 _ _ _)) rfl ?_
        exact Fi.takeR_err rfl (Bel.setRow hB.out (Nat.le_refl _) _)
end Go.Proofs.Ytpfejjkoemnmiaa
