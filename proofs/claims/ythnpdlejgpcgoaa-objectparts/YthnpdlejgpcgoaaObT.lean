/-
  The walk of ObjectParts.
-/
import Derived.Test.YthnpdlejgpcgoaaObW
namespace Go.Proofs.Ythnpdlejgpcgoaa
open Go.RowKit
set_option linter.unusedVariables false
set_option linter.unusedSimpArgs false
set_option maxRecDepth 100000
/-- the block U is an object of which the sites and the names are the call's own since base; its words stand elsewhere -/
structure Ob.Pt (base U : Nat) (V : Value) (B : Option Addr) (m d : Nat) (C : Option Addr) (k e : Nat) (S : List Int) (Y : List Ob.Y) (w : World) : Prop where
  hG : Has U #[V, .slice B m d, .slice C k e] 26 w
  hQ : On 3 .i64 base B m d S w
  hY : Os 39 base C k e Y w
  hO : base ≤ U
section
variable {base U : Nat} {V : Value} {B C : Option Addr} {m d k e : Nat} {S : List Int} {Y : List Ob.Y} {w w' : World}
theorem Ob.Pt.below (h : Ob.Pt base U V B m d C k e S Y w) (hb : Below w.heap.size w w') : Ob.Pt base U V B m d C k e S Y w' := ⟨h.hG.below hb, h.hQ.below hb, h.hY.below hb, h.hO⟩
theorem Ob.Pt.drew (h : Ob.Pt base U V B m d C k e S Y w) : Ob.Pt base U V B m d C k e S Y w.drew := ⟨h.hG.drew, h.hQ, h.hY.drew, h.hO⟩
theorem Ob.Pt.low (h : Ob.Pt base U V B m d C k e S Y w) : base ≤ w.heap.size := Nat.le_trans h.hO (Nat.le_of_lt h.hG.lt)
theorem Ob.Pt.grow1 (h : Ob.Pt base U V B m d C k e S Y w) (hg : w.grownBy w' (Value.slice B m d).ownBlock) {B' : Option Addr} {m' d' : Nat} {S' : List Int} (hN : On 3 .i64 base B' m' d' S' w') : Ob.Pt base U V B' m' d' C k e S' Y (w'.setCell ⟨U, 1, none⟩ (.slice B' m' d')) := by
  have hG := h.hG.grown hg (h.hQ.ne h.hG (by decide))
  exact ⟨hG.set 1 _, hN.other hG (by decide) 1 _, (h.hY.grown hg (h.hQ.unlikeS h.hY (by decide))).other hG (by decide) 1 _, h.hO⟩
theorem Ob.Pt.grow2 (h : Ob.Pt base U V B m d C k e S Y w) (hg : w.grownBy w' (Value.slice C k e).ownBlock) {C' : Option Addr} {k' e' : Nat} {Y' : List Ob.Y} (hN : Os 39 base C' k' e' Y' w') : Ob.Pt base U V B m d C' k' e' S Y' (w'.setCell ⟨U, 2, none⟩ (.slice C' k' e')) := by
  have hG := h.hG.grown hg (h.hY.ne h.hG (by decide))
  exact ⟨hG.set 2 _, (h.hQ.grown (base'' := base) hg (fun q hq p hp e => h.hQ.unlikeS h.hY (by decide) p hp q hq e.symm)).other hG (by decide) 2 _, hN.other hG (by decide) 2 _, h.hO⟩
end
theorem Ob.upto_size {v i : Nat} {Y : List Ob.Y} (h : ∀ y ∈ Y, y.1.size ≤ 1000000) : ∀ y ∈ Ob.upto v Y i, y.1.size ≤ 1000000 := fun y hy => by
  unfold Ob.upto at hy
  exact h y (List.mem_of_mem_take (List.mem_filter.1 hy).1)
set_option maxHeartbeats 8000000 in
set_option maxRecDepth 100000 in
theorem walk_parts (w : World) (A B C : Option Addr) (n c m d k e : Nat) (ws bs : List Int) (ns : List ByteArray) (hW : Wo w A n c ws) (hS : By w B m d bs) (hN : St w C k e ns) (a1 : Int) (l1 : 0 ≤ a1) (u1 : a1 ≤ 255) :
    Calls Try.prog 5 #[.agg #[.slice A n c, .slice B m d, .slice C k e], .int .u8 a1] w fun e w' => e = .returned (.bool true) ∧ Below w.heap.size w w' := by
  have hB := ((Kept.refl w).alloc #[.slice A n c, .slice B m d, .slice C k e] 35).below
  have hO := Lib.hid (Has.new #[.slice A n c, .slice B m d, .slice C k e] 35 w)
  have CF := fun w' (hb : Below w.heap.size w w') => Ob.fit_any (hW.below hb) (hS.below hb) (hN.below hb)
  have hF := Ob.fine_fit bs ns hW.rng
  have hWl := Ob.fW_len ws bs
  rw [hW.len] at hF hWl
  generalize Ob.fW ws bs = W at *
  generalize Ob.fS (min n 40) bs = S at *
  generalize Ob.fY (min n 40) ns = Y at *
  generalize min n 40 = n1 at *
  subst hWl
  replace CF := Lib.hid CF
  have hW40 := hF.hn
  have hY8 := hF.hy
  have hS64 : S.length ≤ 65535 := by
    rcases Nat.eq_zero_or_pos S.length with q | q
    · omega
    · have h1 := hF.hR
      have h2 : ∀ j, j < S.length → (j : Int) ≤ S.getD j 0 := fun j => by
        induction j with
        | zero => intro hj; have := Ch.at_ge h1 0 hj; omega
        | succ j ih => intro hj; have := ih (by omega); have := Ch.mono h1 j (j + 1) (by omega) hj; omega
      have h3 := h2 (S.length - 1) (by omega)
      have h4 := Ch.at_ge h1 (S.length - 1) (by omega)
      omega
  replace hF := Lib.hid hF
  clear hW hS hN
  go_enter Try.func5, Try.ntmps5
  go_wp2_with (fail)
  generalize w.alloc (.cells #[.slice A n c, .slice B m d, .slice C k e] 35) = w1 at *
  refine (Ob.shown_any w1).mono ?_; rintro r w2 ⟨rfl, hE⟩
  replace hB := Lib.hid (hB.trans (hE.mono hB.size))
  replace hO := Lib.hid (hO.out.below hE)
  clear hE
  have o0 := hO.out.cell 0 (.slice A n c) rfl
  have o1 := hO.out.cell 1 (.slice B m d) rfl
  have o2 := hO.out.cell 2 (.slice C k e) rfl
  go_wp2_with (fail)
  clear o0 o1 o2
  refine (CF.out w2 hB.out).mono ?_; rintro r w3 ⟨gW, cW, gS, cS, C1, e1, rfl, hP, hQ, hY, hE⟩
  have hA3 := ((Kept.refl w3).alloc #[.slice (some ⟨gW, 0, none⟩) W.length cW, .slice (some ⟨gS, 0, none⟩) S.length cS, .slice C1 Y.length e1] 26).below
  have hX := Lib.hid (show Ob.Own w2.heap.size w3.heap.size (some ⟨gW, 0, none⟩) W.length cW (some ⟨gS, 0, none⟩) S.length cS C1 Y.length e1 W S Y (w3.alloc (.cells #[.slice (some ⟨gW, 0, none⟩) W.length cW, .slice (some ⟨gS, 0, none⟩) S.length cS, .slice C1 Y.length e1] 26)) from ⟨Has.new _ _ _, (hP.on.below hA3), (hQ.on.below hA3), hY.below hA3, hE.size⟩)
  replace hB := Lib.hid ((hB.out.trans (hE.mono hB.out.size)).trans (hA3.mono (Nat.le_trans hB.out.size hE.size)))
  replace hO := (hO.out.below hE).below hA3
  clear hP hQ hY hE hA3
  clear hO CF
  go_upto_region 3 with (fail)
  generalize hw4 : w3.alloc (.cells #[.slice (some ⟨gW, 0, none⟩) W.length cW, .slice (some ⟨gS, 0, none⟩) S.length cS, .slice C1 Y.length e1] 26) = w4 at *
  clear hw4
  generalize w3.heap.size = O at *
  obtain ⟨v, hv⟩ := Int.eq_ofNat_of_zero_le (Int.emod_nonneg a1 (show ((W.length : Int) + 1) ≠ 0 by omega))
  have hv2 := Int.emod_lt_of_pos a1 (show (0 : Int) < (W.length : Int) + 1 by omega)
  rw [hv] at hv2
  have hvW : v ≤ W.length := by omega
  have hvc : v ≤ cW := by have := (show Ow 37 .u32 _ gW W.length cW W w4 from hX.out.hP).has.2.1; omega
  have hvi : (v : Int) ≤ cW := by omega
  have qa : IntKind.i64.wrap a1 = a1 := by rw [IntKind.wrap_i64]; omega
  have qb : IntKind.i64.wrap ((W.length : Int) + 1) = (W.length : Int) + 1 := by rw [IntKind.wrap_i64]; omega
  have qc : a1.tmod ((W.length : Int) + 1) = v := by rw [Int.tmod_eq_emod_of_nonneg l1, hv]
  have qd : IntKind.i64.wrap (v : Int) = v := by rw [IntKind.wrap_i64]; omega
  have qe : ((W.length : Int) + 1 = 0) = False := eq_false (by omega)
  have o0 := hX.out.hG.cell 0 (.slice (some ⟨gW, 0, none⟩) W.length cW) rfl
  have o1 := hX.out.hG.cell 1 (.slice (some ⟨gS, 0, none⟩) S.length cS) rfl
  have o2 := hX.out.hG.cell 2 (.slice C1 Y.length e1) rfl
  go_wp2
  clear o0 o1 o2 hv hv2 qa qb qc qe
  have hA5 := ((Kept.refl w4).alloc #[.slice (some ⟨gW, 0, none⟩) v cW, .slice none 0 0, .slice none 0 0] 26).below
  have hT := Lib.hid (show Ob.Pt w4.heap.size w4.heap.size (.slice (some ⟨gW, 0, none⟩) v cW) none 0 0 none 0 0 [] [] (w4.alloc (.cells #[.slice (some ⟨gW, 0, none⟩) v cW, .slice none 0 0, .slice none 0 0] 26)) from ⟨Has.new _ _ _, On.none _ _ _ _, Os.none _ _ _, Nat.le_refl _⟩)
  have hEr := Lib.hid hA5
  clear hA5
  generalize w4.alloc (.cells #[.slice (some ⟨gW, 0, none⟩) v cW, .slice none 0 0, .slice none 0 0] 26) = w5 at *
  have hb0 : Ob.below v S 0 = [] := by simp [Ob.below]
  have hf0 : Ob.fitsTo v W S 0 = true := by simp [Ob.fitsTo, Ob.below]
  have hu0 : Ob.upto v Y 0 = [] := by simp [Ob.upto]
  go_loopw [9, 10] (fun f i wr => ∃ (j : Nat) (B' : Option Addr) (d' : Nat), j ≤ S.length ∧ i = .int .i64 j ∧ f = .bool (Ob.fitsTo v W S j) ∧ Ob.Pt w4.heap.size w4.heap.size (.slice (some ⟨gW, 0, none⟩) v cW) B' (Ob.below v S j).length d' none 0 0 (Ob.below v S j) [] wr ∧ Below w4.heap.size w4 wr) (fun _ i _ => S.length - (intOf i).toNat)
  case atStart => exact ⟨0, none, 0, Nat.zero_le _, rfl, by rw [hf0], by rw [hb0]; exact hT.out, hEr.out⟩
  case round =>
    clear hT hEr
    obtain ⟨j, B', d', hj, rfl, rfl, hT, hEr⟩ := hrel
    replace hT := Lib.hid hT
    replace hEr := Lib.hid hEr
    have o1 := (hX.out.below hEr.out).hG.cell 1 (.slice (some ⟨gS, 0, none⟩) S.length cS) rfl
    by_cases d1 : j < S.length
    · have d2 : (j : Int) < S.length := by omega
      obtain ⟨s, hs1, hs2, hs3⟩ := Ch.site_nat hF.out.hR j d1
      have g1 := (show Ow 3 .i64 _ gS S.length cS S wr from (hX.out.below hEr.out).hQ).at j d1
      rw [hs1] at g1
      by_cases d4 : s < v
      · have d5 : (s : Int) < v := by omega
        have hby := Ob.below_yes (S := S) (n := v) d1 (by rw [hs1]; exact d5)
        have hfy := Ob.fits_yes (W := W) (S := S) (n := v) d1 (by rw [hs1]; exact d5)
        rw [hs1] at hby hfy
        rw [Int.toNat_natCast] at hfy
        have hZl := Ob.below_len v S j
        generalize Ob.below v S j = Z at *
        obtain ⟨x, hx⟩ : ∃ x, W.getD s 0 = x := ⟨_, rfl⟩
        have hxr : 0 ≤ x ∧ x < 4294967296 := by rw [← hx, List.getD_eq_getElem?_getD, List.getElem?_eq_getElem hs2]; exact hF.out.hr _ (List.getElem_mem hs2)
        rw [hx] at hfy
        replace hby := Lib.hid hby
        replace hfy := Lib.hid hfy
        replace hs1 := Lib.hid hs1
        replace hx := Lib.hid hx
        have qf : IntKind.i64.wrap x = x := by rw [IntKind.wrap_i64]; omega
        have qg : IntKind.i64.wrap (4 * (v : Int)) = 4 * v := by rw [IntKind.wrap_i64]; omega
        generalize hfz : Ob.fitsTo v W S j = fz at *
        clear hfz
        go_wp2_with (fail)
        clear o1 g1
        refine wpT.start (T := 8) (S := fun w' => Below wr.drew.heap.size wr.drew w') (by kernel_rfl) ?_
        have hHeld := Below.refl wr.drew.heap.size wr.drew
        have hTd := Lib.hid hT.out.drew
        have hEd := Lib.hid hEr.out.drew
        have hXd := Lib.hid (hX.out.below hEd.out)
        clear hT hEr
        generalize wr.drew = w6 at *
        refine wpT.take (i := 0) (oi := { dst := some 47, op := Op.fieldAddr 26 (Operand.tmp 8) 1, type := 0, pos := "more.go:18", after := #[], guard := none }) (v := ?_) rfl (by kernel_rfl) (by kernel_rfl) (by kernel_rfl) (by kernel_rfl) (by kernel_rfl) (fun _ _ _ h => h) (Or.inl ⟨rfl, ?_⟩) hHeld ?_
        rotate_left
        · (intro wz hSw; go_simp; try with_reducible rfl)
        try simp only [Act.put, List.setIfInBounds_toArray, List.set_cons_zero, List.set_cons_succ]
        refine wpT.take (i := 1) (oi := { dst := some 48, op := Op.load 23 (Operand.tmp 47), type := 23, pos := "more.go:18", after := #[{ on := 0, ground := Ground.data }], guard := none }) (v := ?_) rfl (by kernel_rfl) (by kernel_rfl) (by kernel_rfl) (by kernel_rfl) (by kernel_rfl) (fun _ _ _ h => h) (Or.inl ⟨rfl, ?_⟩) hHeld ?_
        rotate_left
        · (intro wz hSw; have o1 := (hTd.out.below hSw).hG.cell 1 (.slice B' Z.length d') rfl; go_simp; try with_reducible rfl)
        try simp only [Act.put, List.setIfInBounds_toArray, List.set_cons_zero, List.set_cons_succ]
        refine wpT.take (i := 2) (oi := { dst := some 49, op := Op.fieldAddr 26 (Operand.tmp 6) 1, type := 0, pos := "more.go:18", after := #[], guard := none }) (v := ?_) rfl (by kernel_rfl) (by kernel_rfl) (by kernel_rfl) (by kernel_rfl) (by kernel_rfl) (fun _ _ _ h => h) (Or.inl ⟨rfl, ?_⟩) hHeld ?_
        rotate_left
        · (intro wz hSw; go_simp; try with_reducible rfl)
        try simp only [Act.put, List.setIfInBounds_toArray, List.set_cons_zero, List.set_cons_succ]
        refine wpT.take (i := 3) (oi := { dst := some 50, op := Op.load 23 (Operand.tmp 49), type := 23, pos := "more.go:18", after := #[{ on := 2, ground := Ground.data }], guard := none }) (v := ?_) rfl (by kernel_rfl) (by kernel_rfl) (by kernel_rfl) (by kernel_rfl) (by kernel_rfl) (fun _ _ _ h => h) (Or.inl ⟨rfl, ?_⟩) hHeld ?_
        rotate_left
        · (intro wz hSw; have o1 := (hXd.out.below hSw).hG.cell 1 (.slice (some ⟨gS, 0, none⟩) S.length cS) rfl; go_simp; try with_reducible rfl)
        try simp only [Act.put, List.setIfInBounds_toArray, List.set_cons_zero, List.set_cons_succ]
        refine wpT.take (i := 4) (oi := { dst := some 51, op := Op.move (Operand.tmp 10), type := 3, pos := "more.go:18", after := #[], guard := none }) (v := ?_) rfl (by kernel_rfl) (by kernel_rfl) (by kernel_rfl) (by kernel_rfl) (by kernel_rfl) (fun _ _ _ h => h) (Or.inl ⟨rfl, ?_⟩) hHeld ?_
        rotate_left
        · (intro wz hSw; go_simp; try with_reducible rfl)
        try simp only [Act.put, List.setIfInBounds_toArray, List.set_cons_zero, List.set_cons_succ]
        refine wpT.take (i := 5) (oi := { dst := some 52, op := Op.indexAddr 23 (Operand.tmp 50) (Operand.tmp 51), type := 0, pos := "more.go:18", after := #[{ on := 3, ground := Ground.data }, { on := 4, ground := Ground.data }], guard := none }) (v := ?_) rfl (by kernel_rfl) (by kernel_rfl) (by kernel_rfl) (by kernel_rfl) (by kernel_rfl) (fun _ _ _ h => h) (Or.inl ⟨rfl, ?_⟩) hHeld ?_
        rotate_left
        · (intro wz hSw; go_simp; try with_reducible rfl)
        try simp only [Act.put, List.setIfInBounds_toArray, List.set_cons_zero, List.set_cons_succ]
        refine wpT.take (i := 6) (oi := { dst := some 53, op := Op.load 3 (Operand.tmp 52), type := 3, pos := "more.go:18", after := #[{ on := 5, ground := Ground.data }], guard := none }) (v := ?_) rfl (by kernel_rfl) (by kernel_rfl) (by kernel_rfl) (by kernel_rfl) (by kernel_rfl) (fun _ _ _ h => h) (Or.inl ⟨rfl, ?_⟩) hHeld ?_
        rotate_left
        · (intro wz hSw; have g1 := (show Ow 3 .i64 _ gS S.length cS S wz from (hXd.out.below hSw).hQ).at j d1; rw [hs1.out] at g1; go_simp; try with_reducible rfl)
        try simp only [Act.put, List.setIfInBounds_toArray, List.set_cons_zero, List.set_cons_succ]
        refine wpT.one (i := 7) (o := { dst := some 54, op := Op.buildSlice 23 1 #[(0, Operand.tmp 53)], type := 23, pos := "more.go:18", after := #[{ on := 6, ground := Ground.data }], guard := none }) rfl (by kernel_rfl) (fun K hK => ?_)
        go_simp
        have hE := ((Kept.refl w6).alloc #[.int .i64 (s : Int)] 3).below
        have hY9 := Lib.hid (Rg.one (Has.new #[.int .i64 (s : Int)] 3 w6))
        have hT4 := Lib.hid (hTd.out.below hE)
        have hE4 := Lib.hid (hEd.out.trans (hE.mono hEd.out.size))
        generalize w6.alloc (.cells #[.int .i64 (s : Int)] 3) = w7 at *
        clear hHeld
        refine hK.out _ _ hE (fun hHeld => ?_)
        clear hK K hE
        try simp only [Act.put, List.setIfInBounds_toArray, List.set_cons_zero, List.set_cons_succ]
        refine wpT.late (i := 8) (o := { dst := some 55, op := Op.call { callee := Callee.builtin Builtin.append, args := #[Operand.tmp 48, Operand.tmp 54], argTypes := #[23, 23] }, type := 23, pos := "more.go:18", after := #[{ on := 1, ground := Ground.data }, { on := 7, ground := Ground.data }], guard := none }) (by omega) rfl (by kernel_rfl) (fun K hK => ?_)
        have hsT := hT4.out.low
        refine append_onK Try.underlying23 Ch.info64 (by omega) (.tmp 48) (.tmp 54) rfl w4.heap.size B' Z.length d' Z rfl hT4.out.hQ _ 1 1 [(s : Int)] rfl hY9.out (by omega) (by omega) hsT ?_
        intro g' cap' w8 hO8 hG8
        have hGG := hT4.out.hG.grown hG8 (hT4.out.hQ.ne hT4.out.hG (by decide))
        have f0 := hGG.cell 1 (.slice B' Z.length d') rfl
        have f1 := hGG.free 1
        have hT5 := Lib.hid (hT4.out.grow1 hG8 hO8.on)
        have hE5 := Lib.hid ((hE4.out.grown hG8 hsT hT4.out.hQ.from).setCell (p := ⟨w4.heap.size, 1, none⟩) (Nat.le_refl _) (.slice (some ⟨g', 0, none⟩) (Z.length + 1) cap'))
        clear hO8 hG8 hGG hY9 hsT hT4 hE4 hHeld
        refine hK.out _ _ ?_
        clear hK K
        try simp only [Act.put, List.setIfInBounds_toArray, List.set_cons_zero, List.set_cons_succ]
        refine wpT.late (i := 9) (o := { dst := some 56, op := Op.fieldAddr 26 (Operand.tmp 8) 1, type := 0, pos := "more.go:18", after := #[{ on := 0, ground := Ground.phase }, { on := 1, ground := Ground.phase }, { on := 2, ground := Ground.phase }, { on := 3, ground := Ground.phase }, { on := 4, ground := Ground.phase }, { on := 5, ground := Ground.phase }, { on := 6, ground := Ground.phase }, { on := 7, ground := Ground.phase }, { on := 8, ground := Ground.phase }], guard := none }) (by omega) rfl (by kernel_rfl) (fun K hK => ?_)
        go_simp
        refine hK.out _ _ ?_
        clear hK K
        try simp only [Act.put, List.setIfInBounds_toArray, List.set_cons_zero, List.set_cons_succ]
        refine wpT.late (i := 10) (o := { dst := none, op := Op.store 23 (Operand.tmp 56) (Operand.tmp 55), type := 0, pos := "more.go:18", after := #[{ on := 9, ground := Ground.data }, { on := 8, ground := Ground.data }, { on := 8, ground := Ground.chain }, { on := 0, ground := Ground.phase }, { on := 1, ground := Ground.phase }, { on := 2, ground := Ground.phase }, { on := 3, ground := Ground.phase }, { on := 4, ground := Ground.phase }, { on := 5, ground := Ground.phase }, { on := 6, ground := Ground.phase }, { on := 7, ground := Ground.phase }, { on := 8, ground := Ground.phase }], guard := none }) (by omega) rfl (by kernel_rfl) (fun K hK => ?_)
        go_simp
        refine hK.out _ _ ?_
        clear hK K
        try simp only [Act.put, List.setIfInBounds_toArray, List.set_cons_zero, List.set_cons_succ]
        refine wpT.done (by kernel_rfl) ?_ _
        clear hTd hEd hXd f0 f1
        replace hZl := Lib.hid hZl
        generalize w8.setCell ⟨w4.heap.size, 1, none⟩ (.slice (some ⟨g', 0, none⟩) (Z.length + 1) cap') = w9 at *
        go_wp2_with (fail)
        cases fz with
        | true =>
          refine WS.start 16 (by kernel_rfl) (by kernel_rfl) ?_
          intro w10 hw5
          have hTd := Lib.hid hT5.out.drew
          have hEd := Lib.hid hE5.out.drew
          rw [← hw5] at hTd hEd
          have hXd := Lib.hid (hX.out.below hEd.out)
          clear hT5 hE5
          have o0 := hXd.out.hG.cell 0 (.slice (some ⟨gW, 0, none⟩) W.length cW) rfl
          have o1 := hXd.out.hG.cell 1 (.slice (some ⟨gS, 0, none⟩) S.length cS) rfl
          have g1 := (show Ow 3 .i64 _ gS S.length cS S w10 from hXd.out.hQ).at j d1
          rw [hs1.out] at g1
          have d6 : (s : Int) < W.length := by omega
          have g2 := (show Ow 37 .u32 _ gW W.length cW W w10 from hXd.out.hP).at s hs2
          rw [hx.out] at g2
          clear hw5
          simp only [List.take_succ_cons, List.take_zero, List.drop_succ_cons, List.drop_zero]
          refine WS.step rfl (fun K hK => ?_); go_simp; (try (simp only [qf, qg]; (try go_simp))); refine hK _ ?_; clear hK K
          refine WS.step rfl (fun K hK => ?_); go_simp; (try (simp only [qf, qg]; (try go_simp))); refine hK _ ?_; clear hK K
          refine WS.want rfl (fun K hK => ?_); go_simp; (try (simp only [qf, qg]; (try go_simp))); refine hK _ ?_; clear hK K
          refine WS.want rfl (fun K hK => ?_); go_simp; (try (simp only [qf, qg]; (try go_simp))); refine hK _ ?_; clear hK K
          refine WS.want rfl (fun K hK => ?_); go_simp; (try (simp only [qf, qg]; (try go_simp))); refine hK _ ?_; clear hK K
          refine WS.want rfl (fun K hK => ?_); go_simp; (try (simp only [qf, qg]; (try go_simp))); refine hK _ ?_; clear hK K
          refine WS.want rfl (fun K hK => ?_); go_simp; (try (simp only [qf, qg]; (try go_simp))); refine hK _ ?_; clear hK K
          refine WS.want rfl (fun K hK => ?_); go_simp; (try (simp only [qf, qg]; (try go_simp))); refine hK _ ?_; clear hK K
          refine WS.want rfl (fun K hK => ?_); go_simp; (try (simp only [qf, qg]; (try go_simp))); refine hK _ ?_; clear hK K
          refine WS.want rfl (fun K hK => ?_); go_simp; (try (simp only [qf, qg]; (try go_simp))); refine hK _ ?_; clear hK K
          refine WS.want rfl (fun K hK => ?_); go_simp; (try (simp only [qf, qg]; (try go_simp))); refine hK _ ?_; clear hK K
          refine WS.want rfl (fun K hK => ?_); go_simp; (try (simp only [qf, qg]; (try go_simp))); refine hK _ ?_; clear hK K
          refine WS.want rfl (fun K hK => ?_); go_simp; (try (simp only [qf, qg]; (try go_simp))); refine hK _ ?_; clear hK K
          refine WS.want rfl (fun K hK => ?_); go_simp; (try (simp only [qf, qg]; (try go_simp))); refine hK _ ?_; clear hK K
          refine WS.want rfl (fun K hK => ?_); go_simp; (try (simp only [qf, qg]; (try go_simp))); refine hK _ ?_; clear hK K
          refine WS.step rfl (fun K hK => ?_); go_simp; (try (simp only [qf, qg]; (try go_simp))); refine hK _ ?_; clear hK K
          refine WS.nil ?_
          clear o0 o1 g1 g2
          go_wp2
          go_roundw
          case rel => exact ⟨j + 1, some ⟨g', 0, none⟩, cap', by omega, by go_num, by rw [hfy.out]; rfl, by rw [hby.out, List.length_append]; exact hTd.out, hEd.out⟩
          case measure => simp [intOf]; omega
        | false =>
          refine WS.start 16 (by kernel_rfl) (by kernel_rfl) ?_
          intro w10 hw5
          have hTd := Lib.hid hT5.out.drew
          have hEd := Lib.hid hE5.out.drew
          rw [← hw5] at hTd hEd
          have hXd := Lib.hid (hX.out.below hEd.out)
          clear hT5 hE5
          clear hw5
          simp only [List.take_succ_cons, List.take_zero, List.drop_succ_cons, List.drop_zero]
          refine WS.step rfl (fun K hK => ?_); go_simp; refine hK _ ?_; clear hK K
          refine WS.step rfl (fun K hK => ?_); go_simp; refine hK _ ?_; clear hK K
          refine WS.skip rfl ?_
          try simp only [Act.put, List.setIfInBounds_toArray, List.set_cons_zero, List.set_cons_succ]
          refine WS.skip rfl ?_
          try simp only [Act.put, List.setIfInBounds_toArray, List.set_cons_zero, List.set_cons_succ]
          refine WS.skip rfl ?_
          try simp only [Act.put, List.setIfInBounds_toArray, List.set_cons_zero, List.set_cons_succ]
          refine WS.skip rfl ?_
          try simp only [Act.put, List.setIfInBounds_toArray, List.set_cons_zero, List.set_cons_succ]
          refine WS.skip rfl ?_
          try simp only [Act.put, List.setIfInBounds_toArray, List.set_cons_zero, List.set_cons_succ]
          refine WS.skip rfl ?_
          try simp only [Act.put, List.setIfInBounds_toArray, List.set_cons_zero, List.set_cons_succ]
          refine WS.skip rfl ?_
          try simp only [Act.put, List.setIfInBounds_toArray, List.set_cons_zero, List.set_cons_succ]
          refine WS.skip rfl ?_
          try simp only [Act.put, List.setIfInBounds_toArray, List.set_cons_zero, List.set_cons_succ]
          refine WS.skip rfl ?_
          try simp only [Act.put, List.setIfInBounds_toArray, List.set_cons_zero, List.set_cons_succ]
          refine WS.skip rfl ?_
          try simp only [Act.put, List.setIfInBounds_toArray, List.set_cons_zero, List.set_cons_succ]
          refine WS.skip rfl ?_
          try simp only [Act.put, List.setIfInBounds_toArray, List.set_cons_zero, List.set_cons_succ]
          refine WS.skip rfl ?_
          try simp only [Act.put, List.setIfInBounds_toArray, List.set_cons_zero, List.set_cons_succ]
          refine WS.skip rfl ?_
          try simp only [Act.put, List.setIfInBounds_toArray, List.set_cons_zero, List.set_cons_succ]
          refine WS.step rfl (fun K hK => ?_); go_simp; refine hK _ ?_; clear hK K
          refine WS.nil ?_
          go_wp2
          go_roundw
          case rel => exact ⟨j + 1, some ⟨g', 0, none⟩, cap', by omega, by go_num, by rw [hfy.out]; rfl, by rw [hby.out, List.length_append]; exact hTd.out, hEd.out⟩
          case measure => simp [intOf]; omega
      · have d5 : ¬ (s : Int) < v := by omega
        have hbn := Ob.below_no (S := S) (n := v) d1 (by rw [hs1]; exact d5)
        have hfn := Ob.fits_no (W := W) (S := S) (n := v) d1 (by rw [hs1]; exact d5)
        replace hbn := Lib.hid hbn
        replace hfn := Lib.hid hfn
        replace hs1 := Lib.hid hs1
        go_wp2
        go_roundw
        case rel => exact ⟨j + 1, B', d', by omega, by go_num, by rw [hfn.out], by rw [hbn.out]; exact hT.out, hEr.out⟩
        case measure => simp [intOf]; omega
    · have d2 : ¬ (j : Int) < S.length := by omega
      obtain rfl : j = S.length := by omega
      clear d1 hj
      go_wp2
      clear o1
      rename World => w11
      obtain ⟨fz, hfz⟩ : ∃ fz, Ob.fitsTo v W S S.length = fz := ⟨_, rfl⟩
      rw [hfz]
      obtain ⟨Z, hZ⟩ : ∃ Z, Ob.below v S S.length = Z := ⟨_, rfl⟩
      rw [hZ] at hT
      replace hZ := Lib.hid hZ
      replace hfz := Lib.hid hfz
      go_loopw [11] (fun i wr => ∃ (j : Nat) (C' : Option Addr) (e' : Nat), j ≤ Y.length ∧ i = .int .i64 j ∧ Ob.Pt w4.heap.size w4.heap.size (.slice (some ⟨gW, 0, none⟩) v cW) B' Z.length d' C' (Ob.upto v Y j).length e' Z (Ob.upto v Y j) wr ∧ Below w4.heap.size w4 wr) (fun i _ => Y.length - (intOf i).toNat)
      case atStart => exact ⟨0, none, 0, Nat.zero_le _, rfl, by rw [hu0]; exact hT.out, hEr.out⟩
      case round =>
        clear hT hEr
        obtain ⟨j, C', e', hj, rfl, hT, hEr⟩ := hrel
        replace hT := Lib.hid hT
        replace hEr := Lib.hid hEr
        by_cases d1 : j < Y.length
        · have d2 : (j : Int) < Y.length := by omega
          obtain ⟨g, rfl⟩ : ∃ g, C1 = some ⟨g, 0, none⟩ := by
            rcases hX.out.hY.cases with ⟨_, h0, _⟩ | ⟨g, rfl, _⟩
            · omega
            · exact ⟨g, rfl⟩
          have o2 := (hX.out.below hEr.out).hG.cell 2 (.slice (some ⟨g, 0, none⟩) Y.length e1) rfl
          have g2 := (hX.out.below hEr.out).hY.sy.at j d1
          rw [Nat.zero_add] at g2
          have qg : IntKind.i64.wrap (4 * (v : Int)) = 4 * v := by rw [IntKind.wrap_i64]; omega
          have hs7 : (Ob.nm Y j).size ≤ 1000000 := Ob.size_at hF.out.siz j
          by_cases d4 : Ob.pl Y j ≤ 4 * (v : Int)
          · have huy := Ob.upto_yes d1 d4
            have hZl := Ob.upto_len v Y j
            generalize Ob.upto v Y j = T at *
            generalize hn0 : Ob.nm Y j = s0 at *
            generalize hp0 : Ob.pl Y j = p0 at *
            replace hn0 := Lib.hid hn0
            replace hp0 := Lib.hid hp0
            replace huy := Lib.hid huy
            go_wp2_with (fail)
            clear o2 g2
            refine wpT.start (T := 8) (S := fun w' => Below wr.drew.heap.size wr.drew w') (by kernel_rfl) ?_
            have hHeld := Below.refl wr.drew.heap.size wr.drew
            have hTd := Lib.hid hT.out.drew
            have hEd := Lib.hid hEr.out.drew
            have hXd := Lib.hid (hX.out.below hEd.out)
            clear hT hEr
            generalize wr.drew = w6 at *
            refine wpT.take (i := 0) (oi := { dst := some 89, op := Op.fieldAddr 26 (Operand.tmp 8) 2, type := 0, pos := "more.go:24", after := #[], guard := none }) (v := ?_) rfl (by kernel_rfl) (by kernel_rfl) (by kernel_rfl) (by kernel_rfl) (by kernel_rfl) (fun _ _ _ h => h) (Or.inl ⟨rfl, ?_⟩) hHeld ?_
            rotate_left
            · (intro wz hSw; go_simp; try with_reducible rfl)
            try simp only [Act.put, List.setIfInBounds_toArray, List.set_cons_zero, List.set_cons_succ]
            refine wpT.take (i := 1) (oi := { dst := some 90, op := Op.load 24 (Operand.tmp 89), type := 24, pos := "more.go:24", after := #[{ on := 0, ground := Ground.data }], guard := none }) (v := ?_) rfl (by kernel_rfl) (by kernel_rfl) (by kernel_rfl) (by kernel_rfl) (by kernel_rfl) (fun _ _ _ h => h) (Or.inl ⟨rfl, ?_⟩) hHeld ?_
            rotate_left
            · (intro wz hSw; have o1 := (hTd.out.below hSw).hG.cell 2 (.slice C' T.length e') rfl; go_simp; try with_reducible rfl)
            try simp only [Act.put, List.setIfInBounds_toArray, List.set_cons_zero, List.set_cons_succ]
            refine wpT.take (i := 2) (oi := { dst := some 91, op := Op.fieldAddr 26 (Operand.tmp 6) 2, type := 0, pos := "more.go:24", after := #[], guard := none }) (v := ?_) rfl (by kernel_rfl) (by kernel_rfl) (by kernel_rfl) (by kernel_rfl) (by kernel_rfl) (fun _ _ _ h => h) (Or.inl ⟨rfl, ?_⟩) hHeld ?_
            rotate_left
            · (intro wz hSw; go_simp; try with_reducible rfl)
            try simp only [Act.put, List.setIfInBounds_toArray, List.set_cons_zero, List.set_cons_succ]
            refine wpT.take (i := 3) (oi := { dst := some 92, op := Op.load 24 (Operand.tmp 91), type := 24, pos := "more.go:24", after := #[{ on := 2, ground := Ground.data }], guard := none }) (v := ?_) rfl (by kernel_rfl) (by kernel_rfl) (by kernel_rfl) (by kernel_rfl) (by kernel_rfl) (fun _ _ _ h => h) (Or.inl ⟨rfl, ?_⟩) hHeld ?_
            rotate_left
            · (intro wz hSw; have o2 := (hXd.out.below hSw).hG.cell 2 (.slice (some ⟨g, 0, none⟩) Y.length e1) rfl; go_simp; try with_reducible rfl)
            try simp only [Act.put, List.setIfInBounds_toArray, List.set_cons_zero, List.set_cons_succ]
            refine wpT.take (i := 4) (oi := { dst := some 93, op := Op.move (Operand.tmp 11), type := 3, pos := "more.go:24", after := #[], guard := none }) (v := ?_) rfl (by kernel_rfl) (by kernel_rfl) (by kernel_rfl) (by kernel_rfl) (by kernel_rfl) (fun _ _ _ h => h) (Or.inl ⟨rfl, ?_⟩) hHeld ?_
            rotate_left
            · (intro wz hSw; go_simp; try with_reducible rfl)
            try simp only [Act.put, List.setIfInBounds_toArray, List.set_cons_zero, List.set_cons_succ]
            refine wpT.take (i := 5) (oi := { dst := some 94, op := Op.indexAddr 24 (Operand.tmp 92) (Operand.tmp 93), type := 0, pos := "more.go:24", after := #[{ on := 3, ground := Ground.data }, { on := 4, ground := Ground.data }], guard := none }) (v := ?_) rfl (by kernel_rfl) (by kernel_rfl) (by kernel_rfl) (by kernel_rfl) (by kernel_rfl) (fun _ _ _ h => h) (Or.inl ⟨rfl, ?_⟩) hHeld ?_
            rotate_left
            · (intro wz hSw; go_simp; try with_reducible rfl)
            try simp only [Act.put, List.setIfInBounds_toArray, List.set_cons_zero, List.set_cons_succ]
            refine wpT.take (i := 6) (oi := { dst := some 95, op := Op.load 39 (Operand.tmp 94), type := 39, pos := "more.go:24", after := #[{ on := 5, ground := Ground.data }], guard := none }) (v := ?_) rfl (by kernel_rfl) (by kernel_rfl) (by kernel_rfl) (by kernel_rfl) (by kernel_rfl) (fun _ _ _ h => h) (Or.inl ⟨rfl, ?_⟩) hHeld ?_
            rotate_left
            · (intro wz hSw; have g1 := (hXd.out.below hSw).hY.sy.name j d1; have g2 := (hXd.out.below hSw).hY.sy.at j d1; rw [Nat.zero_add] at g1 g2; rw [hn0.out] at g1; rw [hp0.out] at g2; go_simp; try with_reducible rfl)
            try simp only [Act.put, List.setIfInBounds_toArray, List.set_cons_zero, List.set_cons_succ]
            refine wpT.one (i := 7) (o := { dst := some 96, op := Op.buildSlice 24 1 #[(0, Operand.tmp 95)], type := 24, pos := "more.go:24", after := #[{ on := 6, ground := Ground.data }], guard := none }) rfl (by kernel_rfl) (fun K hK => ?_)
            go_simp
            have hE := ((Kept.refl w6).alloc #[.string s0, .int .i64 p0] 39).below
            have hY9 := Lib.hid (Sy.one (Has.new #[.string s0, .int .i64 p0] 39 w6))
            have hT4 := Lib.hid (hTd.out.below hE)
            have hE4 := Lib.hid (hEd.out.trans (hE.mono hEd.out.size))
            generalize w6.alloc (.cells #[.string s0, .int .i64 p0] 39) = w7 at *
            clear hHeld
            refine hK.out _ _ hE (fun hHeld => ?_)
            clear hK K hE
            try simp only [Act.put, List.setIfInBounds_toArray, List.set_cons_zero, List.set_cons_succ]
            refine wpT.late (i := 8) (o := { dst := some 97, op := Op.call { callee := Callee.builtin Builtin.append, args := #[Operand.tmp 90, Operand.tmp 96], argTypes := #[24, 24] }, type := 24, pos := "more.go:24", after := #[{ on := 1, ground := Ground.data }, { on := 7, ground := Ground.data }], guard := none }) (by omega) rfl (by kernel_rfl) (fun K hK => ?_)
            have hsT := hT4.out.low
            refine append_syK3 Try.underlying24 Ob.info39 rfl (by omega) (.tmp 90) (.tmp 96) rfl w4.heap.size C' T.length e' T rfl hT4.out.hY _ 1 1 [(s0, p0)] rfl hY9.out (by omega) (by omega) hsT ?_
            intro g' cap' w8 hO8 hG8
            have hGG := hT4.out.hG.grown hG8 (hT4.out.hY.ne hT4.out.hG (by decide))
            have f0 := hGG.cell 2 (.slice C' T.length e') rfl
            have f1 := hGG.free 2
            have hT5 := Lib.hid (hT4.out.grow2 hG8 hO8)
            have hE5 := Lib.hid ((hE4.out.grown hG8 hsT hT4.out.hY.from).setCell (p := ⟨w4.heap.size, 2, none⟩) (Nat.le_refl _) (.slice (some ⟨g', 0, none⟩) (T.length + 1) cap'))
            clear hO8 hG8 hGG hY9 hsT hT4 hE4 hHeld
            refine hK.out _ _ ?_
            clear hK K
            try simp only [Act.put, List.setIfInBounds_toArray, List.set_cons_zero, List.set_cons_succ]
            refine wpT.late (i := 9) (o := { dst := some 98, op := Op.fieldAddr 26 (Operand.tmp 8) 2, type := 0, pos := "more.go:24", after := #[{ on := 0, ground := Ground.phase }, { on := 1, ground := Ground.phase }, { on := 2, ground := Ground.phase }, { on := 3, ground := Ground.phase }, { on := 4, ground := Ground.phase }, { on := 5, ground := Ground.phase }, { on := 6, ground := Ground.phase }, { on := 7, ground := Ground.phase }, { on := 8, ground := Ground.phase }], guard := none }) (by omega) rfl (by kernel_rfl) (fun K hK => ?_)
            go_simp
            refine hK.out _ _ ?_
            clear hK K
            try simp only [Act.put, List.setIfInBounds_toArray, List.set_cons_zero, List.set_cons_succ]
            refine wpT.late (i := 10) (o := { dst := none, op := Op.store 24 (Operand.tmp 98) (Operand.tmp 97), type := 0, pos := "more.go:24", after := #[{ on := 9, ground := Ground.data }, { on := 8, ground := Ground.data }, { on := 8, ground := Ground.chain }, { on := 0, ground := Ground.phase }, { on := 1, ground := Ground.phase }, { on := 2, ground := Ground.phase }, { on := 3, ground := Ground.phase }, { on := 4, ground := Ground.phase }, { on := 5, ground := Ground.phase }, { on := 6, ground := Ground.phase }, { on := 7, ground := Ground.phase }, { on := 8, ground := Ground.phase }], guard := none }) (by omega) rfl (by kernel_rfl) (fun K hK => ?_)
            go_simp
            refine hK.out _ _ ?_
            clear hK K
            try simp only [Act.put, List.setIfInBounds_toArray, List.set_cons_zero, List.set_cons_succ]
            refine wpT.done (by kernel_rfl) ?_ _
            go_wp2
            go_roundw
            case rel => exact ⟨j + 1, some ⟨g', 0, none⟩, cap', by omega, by go_num, by rw [huy.out, List.length_append]; exact hT5.out, hE5.out⟩
            case measure => simp [intOf]; omega
          · have hun := Ob.upto_no d1 d4
            replace hun := Lib.hid hun
            generalize Ob.pl Y j = p0 at *
            go_wp2
            go_roundw
            case rel => exact ⟨j + 1, C', e', by omega, by go_num, by rw [hun.out]; exact hT.out, hEr.out⟩
            case measure => simp [intOf]; omega
        · have d2 : ¬ (j : Int) < Y.length := by omega
          obtain rfl : j = Y.length := by omega
          have o2 := (hX.out.below hEr.out).hG.cell 2 (.slice C1 Y.length e1) rfl
          obtain ⟨T, hT0⟩ : ∃ T, Ob.upto v Y Y.length = T := ⟨_, rfl⟩
          rw [hT0] at hT
          have hTz : ∀ y ∈ T, y.1.size ≤ 1000000 := by rw [← hT0]; exact Ob.upto_size hF.out.siz
          have hpt := hF.out.part v hvW
          rw [hZ.out, hT0, hfz.out] at hpt
          replace hpt := Lib.hid hpt
          replace hT0 := Lib.hid hT0
          replace hTz := Lib.hid hTz
          have p0 := hT.out.hG.cell 0 (.slice (some ⟨gW, 0, none⟩) v cW) rfl
          have p1 := hT.out.hG.cell 1 (.slice B' Z.length d') rfl
          have p2 := hT.out.hG.cell 2 (.slice C' T.length e') rfl
          go_wp2_with (fail)
          clear o2 p0 p1 p2
          refine (Ob.may_any (((hX.out.below hEr.out).wo hF.out.hr).take v hvW) hT.out.hQ.rg hT.out.hY.sy hTz.out).mono ?_; rintro r w20 ⟨rfl, hE⟩
          rw [hpt.out]
          have hXo := Lib.hid ((hX.out.below hEr.out).below hE)
          replace hB := Lib.hid ((hB.out.trans (hEr.out.mono hB.out.size)).trans (hE.mono (Nat.le_trans hB.out.size hEr.out.size)))
          have hb6 := Lib.hid (Below.refl w20.heap.size w20)
          clear hE hT hEr hX hpt
          have CA : ∀ w', Below w20.heap.size w20 w' → Calls Try.prog 9 #[.agg #[.slice (some ⟨gW, 0, none⟩) W.length cW, .slice (some ⟨gS, 0, none⟩) S.length cS, .slice none 0 0]] w' (fun r w'' => r = .returned (.int .i64 0) ∧ Below w'.heap.size w' w'') := fun w' hb => by
            have h := Ob.may_any ((hXo.out.below hb).wo hF.out.hr) (hXo.out.below hb).in (Os.none 39 0 w').sy (by simp)
            rw [hF.out.noY.ok] at h
            exact h
          replace CA := Lib.hid CA
          have CB : ∀ w', Below w20.heap.size w20 w' → Calls Try.prog 9 #[.agg #[.slice (some ⟨gW, 0, none⟩) W.length cW, .slice none 0 0, .slice C1 Y.length e1]] w' (fun r w'' => r = .returned (.int .i64 0) ∧ Below w'.heap.size w' w'') := fun w' hb => by
            have h := Ob.may_any ((hXo.out.below hb).wo hF.out.hr) (On.none 3 .i64 0 w').rg (hXo.out.below hb).sy hF.out.siz
            rw [hF.out.noS.ok] at h
            exact h
          replace CB := Lib.hid CB
          have CC : ∀ w', Below w20.heap.size w20 w' → Calls Try.prog 9 #[.agg #[.slice (some ⟨gW, 0, none⟩) W.length cW, .slice none 0 0, .slice none 0 0]] w' (fun r w'' => r = .returned (.int .i64 0) ∧ Below w'.heap.size w' w'') := fun w' hb => by
            have h := Ob.may_any ((hXo.out.below hb).wo hF.out.hr) (On.none 3 .i64 0 w').rg (Os.none 39 0 w').sy (by simp)
            rw [hF.out.noS.noY.ok] at h
            exact h
          replace CC := Lib.hid CC
          cases fz with
          | true =>
            rw [if_pos rfl]
            have o0 := hXo.out.hG.cell 0 (.slice (some ⟨gW, 0, none⟩) W.length cW) rfl
            have o1 := hXo.out.hG.cell 1 (.slice (some ⟨gS, 0, none⟩) S.length cS) rfl
            go_wp2_with (fail)
            clear o0 o1
            refine (CA.out _ hb6.out).mono ?_; rintro r w21 ⟨rfl, hE⟩
            replace hXo := Lib.hid (hXo.out.below hE)
            replace hB := Lib.hid (hB.out.trans (hE.mono hB.out.size))
            replace hb6 := Lib.hid (hb6.out.trans (hE.mono hb6.out.size))
            clear hE
            have o0 := hXo.out.hG.cell 0 (.slice (some ⟨gW, 0, none⟩) W.length cW) rfl
            have o2 := hXo.out.hG.cell 2 (.slice C1 Y.length e1) rfl
            go_wp2_with (fail)
            clear o0 o2
            refine (CB.out _ hb6.out).mono ?_; rintro r w22 ⟨rfl, hE⟩
            replace hXo := Lib.hid (hXo.out.below hE)
            replace hB := Lib.hid (hB.out.trans (hE.mono hB.out.size))
            replace hb6 := Lib.hid (hb6.out.trans (hE.mono hb6.out.size))
            clear hE
            have o0 := hXo.out.hG.cell 0 (.slice (some ⟨gW, 0, none⟩) W.length cW) rfl
            go_wp2_with (fail)
            clear o0
            refine (CC.out _ hb6.out).mono ?_; rintro r w23 ⟨rfl, hE⟩
            replace hXo := Lib.hid (hXo.out.below hE)
            replace hB := Lib.hid (hB.out.trans (hE.mono hB.out.size))
            replace hb6 := Lib.hid (hb6.out.trans (hE.mono hb6.out.size))
            clear hE
            go_wp2
            go_ret
            exact ⟨rfl, hB.out⟩
          | false =>
            rw [if_neg (by decide)]
            have o0 := hXo.out.hG.cell 0 (.slice (some ⟨gW, 0, none⟩) W.length cW) rfl
            have o1 := hXo.out.hG.cell 1 (.slice (some ⟨gS, 0, none⟩) S.length cS) rfl
            go_wp2_with (fail)
            clear o0 o1
            refine (CA.out _ hb6.out).mono ?_; rintro r w21 ⟨rfl, hE⟩
            replace hXo := Lib.hid (hXo.out.below hE)
            replace hB := Lib.hid (hB.out.trans (hE.mono hB.out.size))
            replace hb6 := Lib.hid (hb6.out.trans (hE.mono hb6.out.size))
            clear hE
            have o0 := hXo.out.hG.cell 0 (.slice (some ⟨gW, 0, none⟩) W.length cW) rfl
            have o2 := hXo.out.hG.cell 2 (.slice C1 Y.length e1) rfl
            go_wp2_with (fail)
            clear o0 o2
            refine (CB.out _ hb6.out).mono ?_; rintro r w22 ⟨rfl, hE⟩
            replace hXo := Lib.hid (hXo.out.below hE)
            replace hB := Lib.hid (hB.out.trans (hE.mono hB.out.size))
            replace hb6 := Lib.hid (hb6.out.trans (hE.mono hb6.out.size))
            clear hE
            have o0 := hXo.out.hG.cell 0 (.slice (some ⟨gW, 0, none⟩) W.length cW) rfl
            go_wp2_with (fail)
            clear o0
            refine (CC.out _ hb6.out).mono ?_; rintro r w23 ⟨rfl, hE⟩
            replace hXo := Lib.hid (hXo.out.below hE)
            replace hB := Lib.hid (hB.out.trans (hE.mono hB.out.size))
            replace hb6 := Lib.hid (hb6.out.trans (hE.mono hb6.out.size))
            clear hE
            go_wp2
            go_ret
            exact ⟨rfl, hB.out⟩
end Go.Proofs.Ythnpdlejgpcgoaa
