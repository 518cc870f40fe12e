/-
  The contract of one of the document's package dump.
-/
import Derived.Test.YtpfejjkoemnmiaaDu8
namespace Go.Proofs.Ytpfejjkoemnmiaa
open Go.RowKit
set_option linter.unusedVariables false
set_option linter.unusedSimpArgs false
set_option maxRecDepth 100000
section
variable {o : Du.St} {l : List Int} {n : Int}
theorem Du.one_1 (h : l.length < 13) : Du.one o l = none := by unfold Du.one; rw [if_pos h]
theorem Du.one_2 (h : 13 ≤ l.length) (hn : Du.num (l.drop (l.length - 8)) = none) : Du.one o l = none := by
  unfold Du.one; rw [if_neg (by omega), hn]
theorem Du.one_3 (h : 15 ≤ l.length) (hn : Du.num (l.drop (l.length - 8)) = some n) (h5 : l.take 5 = Du.nameH) (h6 : L.name ((l.take (l.length - 9)).drop 5) = true) (h7 : l.getD (l.length - 9) 0 = 32) : Du.one o l = some (o.1, o.2.1, o.2.2 ++ [(strOfNums ((l.take (l.length - 9)).drop 5), n)]) := by
  rw [Du.one_eq (by omega) hn, if_pos ⟨h5, h⟩, if_pos ⟨h6, h7⟩]
theorem Du.one_4 (h : 15 ≤ l.length) (hn : Du.num (l.drop (l.length - 8)) = some n) (h5 : l.take 5 = Du.nameH) (h6 : ¬ (L.name ((l.take (l.length - 9)).drop 5) = true ∧ l.getD (l.length - 9) 0 = 32)) : Du.one o l = none := by
  rw [Du.one_eq (by omega) hn, if_pos ⟨h5, h⟩, if_neg h6]
theorem Du.one_5 (h : 13 ≤ l.length) (hn : Du.num (l.drop (l.length - 8)) = some n) (h5 : ¬ (l.take 5 = Du.nameH ∧ 15 ≤ l.length)) (h6 : ¬ (l.length = 13 ∧ o.2.2 = [] ∧ (l.take 5 = Du.wordH ∨ l.take 5 = Du.addrH))) : Du.one o l = none := by
  rw [Du.one_eq h hn, if_neg h5, if_neg h6]
theorem Du.one_6 (h : l.length = 13) (hn : Du.num (l.drop (l.length - 8)) = some n) (hY : o.2.2 = []) (h5 : l.take 5 = Du.addrH) : Du.one o l = some (o.1 ++ [n], o.2.1 ++ [(o.1.length : Int)], []) := by
  rw [Du.one_eq (by omega) hn, if_neg (by omega), if_pos ⟨h, hY, Or.inr h5⟩, if_pos h5]
theorem Du.one_7 (h : l.length = 13) (hn : Du.num (l.drop (l.length - 8)) = some n) (hY : o.2.2 = []) (h5 : l.take 5 = Du.wordH) : Du.one o l = some (o.1 ++ [n], o.2.1, []) := by
  rw [Du.one_eq (by omega) hn, if_neg (by omega), if_pos ⟨h, hY, Or.inl h5⟩, if_neg (by rw [h5]; decide)]
end
/-- objects that were there stand as they stood; O: the first block that was not there -/
def Du.Keep (O : Nat) (w w' : World) : Prop := ∀ g cs, Has g cs 26 w → g < O ∧ Has g cs 26 w'
section
variable {O : Nat} {w w1 w2 : World}
theorem Du.Keep.below (h : Du.Keep O w w1) (hb : Below w1.heap.size w1 w2) : Du.Keep O w w2 := fun g cs q => ⟨(h g cs q).1, (h g cs q).2.below hb⟩
theorem Du.Keep.drew (h : Du.Keep O w w1) : Du.Keep O w w1.drew := fun g cs q => ⟨(h g cs q).1, (h g cs q).2.drew⟩
theorem Du.Keep.grown {e : TypeId} {k : IntKind} {base n c : Nat} {A : Option Addr} {xs : List Int} (h : Du.Keep O w w1) (hP : On e k base A n c xs w1) (he : 26 ≠ e) (hg : w1.grownBy w2 (Value.slice A n c).ownBlock) : Du.Keep O w w2 := fun g cs q => ⟨(h g cs q).1, (h g cs q).2.grown hg (hP.ne (h g cs q).2 he)⟩
theorem Du.Keep.grownS {e : TypeId} {base n c : Nat} {A : Option Addr} {xs : List Ob.Y} (h : Du.Keep O w w1) (hP : Os e base A n c xs w1) (he : 26 ≠ e) (hg : w1.grownBy w2 (Value.slice A n c).ownBlock) : Du.Keep O w w2 := fun g cs q => ⟨(h g cs q).1, (h g cs q).2.grown hg (hP.ne (h g cs q).2 he)⟩
theorem Du.Keep.cell (h : Du.Keep O w w1) (j : Nat) (v : Value) : Du.Keep O w (w1.setCell ⟨O, j, none⟩ v) := fun g cs q => ⟨(h g cs q).1, (h g cs q).2.other (p := ⟨O, j, none⟩) (by have := (h g cs q).1; show g ≠ O; omega) v⟩
theorem Du.Keep.row {R : Nat} (h : Du.Keep O w w1) (hR : O ≤ R) (cs' : Array Value) : Du.Keep O w (w1.setRow R cs') := fun g cs q => ⟨(h g cs q).1, (h g cs q).2.rowOther (by have := (h g cs q).1; omega) cs'⟩
end
theorem Du.bs_head (s : ByteArray) : L.bs (s.extract 0 5) = (L.bs s).take 5 := by rw [Du.bs_extract, List.drop_zero]
theorem Du.bs_last (s : ByteArray) (h : 8 ≤ s.size) : L.bs (s.extract (s.size - 8) s.size) = (L.bs s).drop ((L.bs s).length - 8) := by
  rw [Du.bs_extract, L.bs_len, List.take_of_length_le (by rw [List.length_drop, L.bs_len]; exact Nat.le_refl _)]
theorem Du.bs_mid (s : ByteArray) (h : 14 ≤ s.size) : L.bs (s.extract 5 (s.size - 9)) = ((L.bs s).take ((L.bs s).length - 9)).drop 5 := by
  rw [Du.bs_extract, L.bs_len, List.drop_take]
theorem Du.bs_byte (s : ByteArray) {i : Nat} (h : i < s.size) : ((s[i]'h).toNat : Int) = (L.bs s).getD i 0 := by
  have hl : i < (L.bs s).length := by rw [L.bs_len]; exact h
  rw [L.bs_at s i h, List.getD_eq_getElem?_getD, List.getElem?_eq_getElem hl]; rfl
set_option maxHeartbeats 4000000 in
set_option maxRecDepth 100000 in
theorem Du.rone_any {base : Nat} {A B C : Option Addr} {n c m d k e : Nat} {W S : List Int} {Y : List Ob.Y} {w : World} (hW : On 37 .u32 base A n c W w) (hS : On 3 .i64 base B m d S w) (hY : Os 54 base C k e Y w) (hb : base ≤ w.heap.size) (hw1 : W.length ≤ 1000000000) (hw2 : S.length ≤ 1000000000) (hw3 : Y.length ≤ 1000000000) (s : ByteArray) (hs : s.size ≤ 1000000) :
    Calls Try.prog 30 #[.agg #[.slice A n c, .slice B m d, .slice C k e], .string s] w fun r w' => ∃ W' S' Y' A' n' c' B' m' d' C' k' e', r = .returned (.tuple #[.agg #[.slice A' n' c', .slice B' m' d', .slice C' k' e'], .bool (Du.one (W, S, Y) (L.bs s)).isSome]) ∧ On 37 .u32 base A' n' c' W' w' ∧ On 3 .i64 base B' m' d' S' w' ∧ Os 54 base C' k' e' Y' w' ∧ Below base w w' ∧ (∀ W1 S1 Y1, Du.one (W, S, Y) (L.bs s) = some (W1, S1, Y1) → W' = W1 ∧ S' = S1 ∧ Y' = Y1) ∧ ∀ g cs, Has g cs 26 w → Has g cs 26 w' := by
  have hnn := hW.rg.len
  have hmm := hS.rg.len
  have hkk := hY.sy.len
  have hl := L.bs_len s
  obtain ⟨X, hXe⟩ : ∃ X, Du.one (W, S, Y) (L.bs s) = X := ⟨_, rfl⟩
  rw [hXe]
  replace hXe := Lib.hid hXe
  have hA1 := ((Kept.refl w).alloc #[.slice A n c, .slice B m d, .slice C k e] 26).below
  have hA2 := ((Kept.refl (w.alloc (.cells #[.slice A n c, .slice B m d, .slice C k e] 26))).alloc #[.slice none 0 0, .slice none 0 0, .slice none 0 0] 26).below
  have hz1 : (w.alloc (.cells #[.slice A n c, .slice B m d, .slice C k e] 26)).heap.size = w.heap.size + 1 := by simp
  have hA := hA1.trans (hA2.mono hA1.size)
  have hB := Lib.hid (hA.mono hb)
  have hO := Lib.hid (show Ob.Own base w.heap.size A n c B m d C k e W S Y ((w.alloc (.cells #[.slice A n c, .slice B m d, .slice C k e] 26)).alloc (.cells #[.slice none 0 0, .slice none 0 0, .slice none 0 0] 26)) from ⟨(Has.new _ _ w).below hA2, hW.below hA, hS.below hA, hY.below hA, hb⟩)
  have hR := Has.new #[.slice none 0 0, .slice none 0 0, .slice none 0 0] 26 (w.alloc (.cells #[.slice A n c, .slice B m d, .slice C k e] 26))
  rw [hz1] at hR
  replace hR := Lib.hid hR
  have hK := Lib.hid (show Du.Keep w.heap.size w ((w.alloc (.cells #[.slice A n c, .slice B m d, .slice C k e] 26)).alloc (.cells #[.slice none 0 0, .slice none 0 0, .slice none 0 0] 26)) from fun g cs h => ⟨h.lt, h.below hA⟩)
  have hRl : base ≤ w.heap.size + 1 := by omega
  have hOR' : w.heap.size ≤ w.heap.size + 1 := by omega
  have hOR : w.heap.size ≠ w.heap.size + 1 := by omega
  clear hA hA1 hA2 hW hS hY hz1
  go_enter Try.func30, Try.ntmps30
  go_upto_region 1 with (fail)
  generalize (w.alloc (.cells #[.slice A n c, .slice B m d, .slice C k e] 26)).alloc (.cells #[.slice none 0 0, .slice none 0 0, .slice none 0 0] 26) = w2 at *
  generalize hReq : w.heap.size + 1 = R at *
  replace hReq := Lib.hid hReq
  have hbO := hb
  generalize w.heap.size = O at *
  by_cases c1 : s.size < 13
  · have c2 : (s.size : Int) < 13 := by omega
    have X1 := hXe.out.symm.trans (Du.one_1 (by omega))
    subst X1
    clear hXe
    go_wp2_with (first
      | (with_reducible refine load_has (o := ⟨some 13, _, _, _, _, _⟩) rfl 26 (.tmp 2) rfl O rfl hO.out.hG Try.underlying26 rfl (Ob.info26 _ _ _) ?_)
      | (with_reducible refine store_has (o := ⟨none, _, _, _, _, _⟩) rfl 26 (.tmp 4) (.tmp 13) rfl R #[.slice A n c, .slice B m d, .slice C k e] rfl rfl hR.out (Ob.info26 _ _ _) rfl (Ob.oneS _ _ _ _ _ _ _ _ _) ?_)
      | fail)
    refine bodyPost_ret (results_has2 rfl R rfl (hR.out.row _) Try.underlying26 rfl (Ob.info26 _ _ _)) rfl ?_
    exact ⟨_, _, _, A, n, c, B, m, d, C, k, e, rfl, hO.out.hP.otherRow hR.out (by decide) _, hO.out.hQ.otherRow hR.out (by decide) _, hO.out.hY.otherRow hR.out (by decide) _, Bel.setRow hB.out hRl _, (fun _ _ _ q => by cases q), fun g cs h => (hK.out.row hOR' _ g cs h).2⟩
  have c2 : ¬ (s.size : Int) < 13 := by omega
  have hP2 := Lib.hid (fun q => hXe.out.symm.trans (Du.one_2 (o := (W, S, Y)) (l := L.bs s) (by omega) q))
  rw [← Du.bs_last s (by omega)] at hP2
  have hNu := Lib.hid (fun v => Du.rnumber_any (s.extract (s.size - 8) s.size) (by rw [← L.bs_len, Du.bs_extract]; simp; omega) v)
  go_wp2_with (fail)
  refine (hNu.out _).mono ?_; rintro r w3 ⟨rfl, rfl⟩
  clear hNu
  cases hr : Du.num (L.bs (s.extract (s.size - 8) s.size)) with
  | none =>
    have X1 := hP2.out hr
    subst X1
    rw [show Du.numV none = .tuple #[.int .u32 0, .bool false] from rfl]
    clear hXe hP2
    go_wp2_with (first
      | (with_reducible refine load_has (o := ⟨some 27, _, _, _, _, _⟩) rfl 26 (.tmp 2) rfl O rfl hO.out.hG Try.underlying26 rfl (Ob.info26 _ _ _) ?_)
      | (with_reducible refine store_has (o := ⟨none, _, _, _, _, _⟩) rfl 26 (.tmp 4) (.tmp 27) rfl R #[.slice A n c, .slice B m d, .slice C k e] rfl rfl hR.out (Ob.info26 _ _ _) rfl (Ob.oneS _ _ _ _ _ _ _ _ _) ?_)
      | fail)
    refine bodyPost_ret (results_has2 rfl R rfl (hR.out.row _) Try.underlying26 rfl (Ob.info26 _ _ _)) rfl ?_
    exact ⟨_, _, _, A, n, c, B, m, d, C, k, e, rfl, hO.out.hP.otherRow hR.out (by decide) _, hO.out.hQ.otherRow hR.out (by decide) _, hO.out.hY.otherRow hR.out (by decide) _, Bel.setRow hB.out hRl _, (fun _ _ _ q => by cases q), fun g cs h => (hK.out.row hOR' _ g cs h).2⟩
  | some x =>
    rw [show Du.numV (some x) = .tuple #[.int .u32 x, .bool true] from rfl]
    rw [Du.bs_last s (by omega)] at hr
    obtain ⟨_, x0, x1⟩ := Du.hex_num hr
    have hhd := Du.bs_head s
    generalize s.extract 0 5 = hd at *
    clear hP2
    by_cases cn : hd = ⟨#[110, 97, 109, 101, 32]⟩ ∧ 15 ≤ s.size
    · obtain ⟨cn, c15⟩ := cn
      subst cn
      have c16 : (15 : Int) ≤ s.size := by omega
      have h5 : (L.bs s).take 5 = Du.nameH := by rw [← hhd]; rfl
      have hmid := Du.bs_mid s (by omega)
      have hd9 : s.size - 9 < s.size := by omega
      have hY3 := Lib.hid (fun q1 q2 => hXe.out.symm.trans (Du.one_3 (o := (W, S, Y)) (l := L.bs s) (by omega) hr h5 q1 q2))
      have hY4 := Lib.hid (fun q => hXe.out.symm.trans (Du.one_4 (o := (W, S, Y)) (l := L.bs s) (by omega) hr h5 q))
      rw [← hmid, hl] at hY3 hY4
      rw [L.str_bs] at hY3
      have ht9 : (s.extract 5 (s.size - 9)).size ≤ 1000000 := by rw [← L.bs_len, Du.bs_extract]; simp; omega
      clear hmid hr hXe hhd
      go_upto_region 9 with (fail)
      generalize s.extract 5 (s.size - 9) = t at *
      have q9 : IntKind.i64.wrap ((s.size : Int) - 9) = ((s.size - 9 : Nat) : Int) := by rw [IntKind.wrap_i64]; omega
      generalize s.size - 9 = p9 at *
      have hd10 : (p9 : Int) < s.size := by omega
      have hbt := Du.bs_byte s (i := p9) hd9
      generalize (L.bs s).getD p9 0 = y at *
      have hA4 := ((Kept.refl w2).alloc #[.string t, .int .i64 x] 54).below
      have o2 := hO.out.hG.cell 2 (.slice C k e) rfl
      have hZ4 := Lib.hid (hO.out.below hA4)
      have hR4 := Lib.hid (hR.out.below hA4)
      have hV4 := Lib.hid (Sy.one (Has.new #[.string t, .int .i64 x] 54 w2))
      have hE4 := Lib.hid (hB.out.trans (hA4.mono hO.out.low))
      have hK4 := Lib.hid (hK.out.below hA4)
      have hs0 := hZ4.out.low
      clear hO hR hB hA4 hK
      go_upto_region 10 with (first
        | (with_reducible refine append_sy (o := ⟨some 47, _, _, _, _, _⟩) Try.underlying24 Ob.info39 rfl (by omega) rfl (.tmp 41) (.tmp 46) rfl base C k e Y rfl hZ4.out.hY _ 1 1 [(t, x)] rfl hV4.out (by omega) hs0 (Or.inr (by omega)) ?_
           intro g' cap' w8 hO8 hG8
           have f0 := (hZ4.out.hG.grown hG8 (hZ4.out.hY.ne hZ4.out.hG (by decide))).cell 2 (.slice C k e) rfl
           have f1 := (hZ4.out.hG.grown hG8 (hZ4.out.hY.ne hZ4.out.hG (by decide))).free 2
           have hZF := Lib.hid (hZ4.out.grow2 hG8 hO8)
           have hRF := Lib.hid ((hR4.out.grown hG8 (hZ4.out.hY.ne hR4.out (by decide))).other (p := ⟨O, 2, none⟩) (fun q => hOR q.symm) (.slice (some ⟨g', 0, none⟩) (k + 1) cap'))
           have hKF := Lib.hid ((hK4.out.grownS hZ4.out.hY (by decide) hG8).cell 2 (.slice (some ⟨g', 0, none⟩) (k + 1) cap'))
           have hEF := Lib.hid ((hE4.out.grown hG8 hs0 hZ4.out.hY.from).setCell (p := ⟨O, 2, none⟩) hbO (.slice (some ⟨g', 0, none⟩) (k + 1) cap'))
           clear hO8 hG8 hs0 hE4 hV4 hZ4 hR4 hK4 o2)
        | fail)
      clear f0 f1
      generalize w8.setCell ⟨O, 2, none⟩ (.slice (some ⟨g', 0, none⟩) (k + 1) cap') = w9 at *
      cases hn : L.name (L.bs t) with
      | false =>
        have X1 := hY4.out (fun q => by rw [hn] at q; cases q.1)
        subst X1
        clear hY3 hY4
        refine wp_region_held_drew (S := fun w' => Has O #[.slice A n c, .slice B m d, .slice (some ⟨g', 0, none⟩) (k + 1) cap'] 26 w' ∧ Below base w w' ∧ Du.Keep O w w') (by kernel_rfl) ⟨hZF.out.hG.drew, hEF.out.drew, hKF.out.drew⟩ (fun hHeld => ?_)
        replace hZF := Lib.hid hZF.out.drew
        replace hRF := Lib.hid hRF.out.drew
        clear hEF hKF
        revert hHeld hZF hRF
        generalize w9.drew = v0
        intro hHeld hZF hRF
        refine wpAnyH_take (i := 0) (oi := { dst := some 49, op := Op.load 26 (Operand.tmp 2), type := 26, pos := "ref.go:76", after := #[], guard := none }) (v := ?_) rfl (by kernel_rfl) (by kernel_rfl) (by kernel_rfl) (fun _ _ _ h => h) (Or.inl ⟨rfl, ?_⟩) hHeld ?_
        rotate_left
        · (intro wz hSw; have o0 := hSw.1.cell 0 (.slice A n c) rfl; have o1 := hSw.1.cell 1 (.slice B m d) rfl; have o2 := hSw.1.cell 2 (.slice (some ⟨g', 0, none⟩) (k + 1) cap') rfl; go_simp; try with_reducible rfl)
        try simp only [Act.put, List.setIfInBounds_toArray, List.set_cons_zero, List.set_cons_succ]
        refine wpAnyH_take (i := 1) (oi := { dst := some 50, op := Op.move (Operand.tmp 9), type := 9, pos := "ref.go:76", after := #[], guard := none }) (v := ?_) rfl (by kernel_rfl) (by kernel_rfl) (by kernel_rfl) (fun _ _ _ h => h) (Or.inl ⟨rfl, ?_⟩) hHeld ?_
        rotate_left
        · (intro wz hSw; (try dsimp only at hSw); go_simp; try with_reducible rfl)
        try simp only [Act.put, List.setIfInBounds_toArray, List.set_cons_zero, List.set_cons_succ]
        refine wpAnyH_ready (rs := [2]) (by kernel_rfl) (by simp) ?_
        refine AllReadyH.cons (o := { dst := some 51, op := Op.call { callee := Callee.value (Operand.func 51), args := #[Operand.tmp 50], argTypes := #[9] }, type := 4, pos := "ref.go:76", after := #[{ on := 1, ground := Ground.data }], guard := none }) rfl (fun K hK => ?_) (AllReadyH.nil)
        go_simp
        go_at_call 51
        refine (L.rname_any t ht9 _).mono ?_
        rintro r vq ⟨rfl, rfl⟩
        rw [hn]
        have hN := (show (fun w' => Has O #[.slice A n c, .slice B m d, .slice (some ⟨g', 0, none⟩) (k + 1) cap'] 26 w' ∧ Below base w w' ∧ Du.Keep O w w') _ from hHeld)
        clear hHeld
        refine hK.out _ _ hN (fun hHeld => ?_)
        clear hK K hN
        try simp only [Act.put, List.setIfInBounds_toArray, List.set_cons_zero, List.set_cons_succ]
        refine wpAnyH_take (i := 3) (oi := { dst := some 52, op := Op.move (Operand.tmp 51), type := 4, pos := "ref.go:76", after := #[{ on := 2, ground := Ground.data }, { on := 2, ground := Ground.chain }], guard := none }) (v := ?_) rfl (by kernel_rfl) (by kernel_rfl) (by kernel_rfl) (fun _ _ _ h => h) (Or.inl ⟨rfl, ?_⟩) hHeld ?_
        rotate_left
        · (intro wz hSw; (try dsimp only at hSw); go_simp; try with_reducible rfl)
        try simp only [Act.put, List.setIfInBounds_toArray, List.set_cons_zero, List.set_cons_succ]
        refine wpAnyH_take (i := 4) (oi := { dst := some 53, op := Op.move (Operand.tmp 1), type := 9, pos := "ref.go:76", after := #[{ on := 3, ground := Ground.guard }, { on := 11, ground := Ground.gcOnly Departure.lateStores }], guard := some (3, true) }) (v := undef) rfl (by kernel_rfl) (by kernel_rfl) (by kernel_rfl) (fun _ _ _ h => h) (Or.inr ⟨rfl, rfl⟩) hHeld ?_
        try simp only [Act.put, List.setIfInBounds_toArray, List.set_cons_zero, List.set_cons_succ]
        refine wpAnyH_take (i := 5) (oi := { dst := some 54, op := Op.move (Operand.tmp 1), type := 9, pos := "ref.go:76", after := #[{ on := 3, ground := Ground.guard }], guard := some (3, true) }) (v := undef) rfl (by kernel_rfl) (by kernel_rfl) (by kernel_rfl) (fun _ _ _ h => h) (Or.inr ⟨rfl, rfl⟩) hHeld ?_
        try simp only [Act.put, List.setIfInBounds_toArray, List.set_cons_zero, List.set_cons_succ]
        refine wpAnyH_take (i := 6) (oi := { dst := some 55, op := Op.call { callee := Callee.builtin Builtin.len, args := #[Operand.tmp 54], argTypes := #[9] }, type := 3, pos := "ref.go:76", after := #[{ on := 5, ground := Ground.data }, { on := 3, ground := Ground.guard }], guard := some (3, true) }) (v := undef) rfl (by kernel_rfl) (by kernel_rfl) (by kernel_rfl) (fun _ _ _ h => h) (Or.inr ⟨rfl, rfl⟩) hHeld ?_
        try simp only [Act.put, List.setIfInBounds_toArray, List.set_cons_zero, List.set_cons_succ]
        refine wpAnyH_take (i := 7) (oi := { dst := some 56, op := Op.binOp BinOp.sub 3 (Operand.tmp 55) (Operand.const (Value.int IntKind.i64 9)) 3, type := 3, pos := "ref.go:76", after := #[{ on := 6, ground := Ground.data }, { on := 3, ground := Ground.guard }, { on := 11, ground := Ground.gcOnly Departure.lateStores }], guard := some (3, true) }) (v := undef) rfl (by kernel_rfl) (by kernel_rfl) (by kernel_rfl) (fun _ _ _ h => h) (Or.inr ⟨rfl, rfl⟩) hHeld ?_
        try simp only [Act.put, List.setIfInBounds_toArray, List.set_cons_zero, List.set_cons_succ]
        refine wpAnyH_take (i := 8) (oi := { dst := some 57, op := Op.index 9 (Operand.tmp 53) (Operand.tmp 56), type := 5, pos := "ref.go:76", after := #[{ on := 4, ground := Ground.data }, { on := 7, ground := Ground.data }, { on := 3, ground := Ground.guard }, { on := 11, ground := Ground.gcOnly Departure.lateStores }], guard := some (3, true) }) (v := undef) rfl (by kernel_rfl) (by kernel_rfl) (by kernel_rfl) (fun _ _ _ h => h) (Or.inr ⟨rfl, rfl⟩) hHeld ?_
        try simp only [Act.put, List.setIfInBounds_toArray, List.set_cons_zero, List.set_cons_succ]
        refine wpAnyH_take (i := 9) (oi := { dst := some 58, op := Op.binOp BinOp.eql 5 (Operand.tmp 57) (Operand.const (Value.int IntKind.u8 32)) 5, type := 4, pos := "ref.go:76", after := #[{ on := 8, ground := Ground.data }, { on := 3, ground := Ground.guard }, { on := 11, ground := Ground.gcOnly Departure.lateStores }], guard := some (3, true) }) (v := undef) rfl (by kernel_rfl) (by kernel_rfl) (by kernel_rfl) (fun _ _ _ h => h) (Or.inr ⟨rfl, rfl⟩) hHeld ?_
        try simp only [Act.put, List.setIfInBounds_toArray, List.set_cons_zero, List.set_cons_succ]
        refine wpAnyH_take (i := 10) (oi := { dst := some 59, op := Op.pick (Operand.tmp 52) (Operand.tmp 58) (Operand.const (Value.bool false)), type := 4, pos := "ref.go:76", after := #[{ on := 3, ground := Ground.data }, { on := 9, ground := Ground.data }, { on := 11, ground := Ground.gcOnly Departure.lateStores }], guard := none }) (v := ?_) rfl (by kernel_rfl) (by kernel_rfl) (by kernel_rfl) (fun _ _ _ h => h) (Or.inl ⟨rfl, ?_⟩) hHeld ?_
        rotate_left
        · (intro wz hSw; (try dsimp only at hSw); go_simp; try with_reducible rfl)
        try simp only [Act.put, List.setIfInBounds_toArray, List.set_cons_zero, List.set_cons_succ]
        refine wpAnyH_ready (rs := [11]) (by kernel_rfl) (by simp) ?_
        refine AllReadyH.cons (o := { dst := none, op := Op.store 26 (Operand.tmp 4) (Operand.tmp 49), type := 0, pos := "ref.go:76", after := #[{ on := 0, ground := Ground.data }, { on := 3, ground := Ground.chain }, { on := 0, ground := Ground.phase }, { on := 1, ground := Ground.textOnly Departure.lateStores }, { on := 2, ground := Ground.textOnly Departure.lateStoresUnsure }, { on := 3, ground := Ground.textOnly Departure.lateStores }, { on := 4, ground := Ground.textOnly Departure.lateStores }, { on := 5, ground := Ground.textOnly Departure.lateStores }, { on := 6, ground := Ground.textOnly Departure.lateStoresUnsure }, { on := 7, ground := Ground.textOnly Departure.lateStores }, { on := 8, ground := Ground.textOnly Departure.lateStores }, { on := 9, ground := Ground.textOnly Departure.lateStores }, { on := 10, ground := Ground.textOnly Departure.lateStores }], guard := none }) rfl (fun K hK => ?_) (AllReadyH.nil)
        refine wp_store_row 26 (.tmp 4) (.tmp 49) rfl R #[.slice A n c, .slice B m d, .slice (some ⟨g', 0, none⟩) (k + 1) cap'] rfl rfl 26 _ hRF.out (Ob.info26 _ _ _) rfl (Ob.oneS _ _ _ _ _ _ _ _ _) ?_
        have hZs := hZF.out
        have hN0 := hHeld.1.rowOther (fun q => hOR q) #[.slice A n c, .slice B m d, .slice (some ⟨g', 0, none⟩) (k + 1) cap']
        have hN1 := Bel.setRow hHeld.2.1 hRl #[.slice A n c, .slice B m d, .slice (some ⟨g', 0, none⟩) (k + 1) cap']
        have hN2 := hHeld.2.2.row hOR' #[.slice A n c, .slice B m d, .slice (some ⟨g', 0, none⟩) (k + 1) cap']
        have hN := (show (fun w' => Has O #[.slice A n c, .slice B m d, .slice (some ⟨g', 0, none⟩) (k + 1) cap'] 26 w' ∧ Below base w w' ∧ Du.Keep O w w') _ from ⟨hN0, hN1, hN2⟩)
        clear hHeld
        refine hK.out _ _ hN (fun hHeld => ?_)
        clear hK K hN
        try simp only [Act.put, List.setIfInBounds_toArray, List.set_cons_zero, List.set_cons_succ]
        refine wpAnyH_take (i := 12) (oi := { dst := some 5, op := Op.assign (Operand.tmp 59), type := 4, pos := "ref.go:76", after := #[{ on := 10, ground := Ground.data }, { on := 11, ground := Ground.chain }, { on := 0, ground := Ground.phase }, { on := 1, ground := Ground.phase }, { on := 2, ground := Ground.phase }, { on := 3, ground := Ground.phase }, { on := 4, ground := Ground.phase }, { on := 5, ground := Ground.phase }, { on := 6, ground := Ground.phase }, { on := 7, ground := Ground.phase }, { on := 8, ground := Ground.phase }, { on := 9, ground := Ground.phase }, { on := 10, ground := Ground.phase }, { on := 11, ground := Ground.phase }], guard := none }) (v := ?_) rfl (by kernel_rfl) (by kernel_rfl) (by kernel_rfl) (fun _ _ _ h => h) (Or.inl ⟨rfl, ?_⟩) hHeld ?_
        rotate_left
        · (intro wz hSw; (try dsimp only at hSw); go_simp; try with_reducible rfl)
        try simp only [Act.put, List.setIfInBounds_toArray, List.set_cons_zero, List.set_cons_succ]
        refine wpAnyH_done (by kernel_rfl) ?_ _
        go_wp2
        refine bodyPost_ret (results_has2 rfl R rfl (hRF.out.row _) Try.underlying26 rfl (Ob.info26 _ _ _)) rfl ?_
        exact ⟨_, _, _, A, n, c, B, m, d, (some ⟨g', 0, none⟩), (k + 1), cap', rfl, hZF.out.hP.otherRow hRF.out (by decide) _, hZF.out.hQ.otherRow hRF.out (by decide) _, hZF.out.hY.otherRow hRF.out (by decide) _, hHeld.2.1, (fun _ _ _ q => by cases q), fun g cs h => (hHeld.2.2 g cs h).2⟩
      | true =>
        by_cases c32 : y = 32
        · have z32 : (y == 32) = true := by simpa using c32
          have X1 := hY3.out hn c32
          subst X1
          clear hY3 hY4
          refine wp_region_held_drew (S := fun w' => Has O #[.slice A n c, .slice B m d, .slice (some ⟨g', 0, none⟩) (k + 1) cap'] 26 w' ∧ Below base w w' ∧ Du.Keep O w w') (by kernel_rfl) ⟨hZF.out.hG.drew, hEF.out.drew, hKF.out.drew⟩ (fun hHeld => ?_)
          replace hZF := Lib.hid hZF.out.drew
          replace hRF := Lib.hid hRF.out.drew
          clear hEF hKF
          revert hHeld hZF hRF
          generalize w9.drew = v0
          intro hHeld hZF hRF
          refine wpAnyH_take (i := 0) (oi := { dst := some 49, op := Op.load 26 (Operand.tmp 2), type := 26, pos := "ref.go:76", after := #[], guard := none }) (v := ?_) rfl (by kernel_rfl) (by kernel_rfl) (by kernel_rfl) (fun _ _ _ h => h) (Or.inl ⟨rfl, ?_⟩) hHeld ?_
          rotate_left
          · (intro wz hSw; have o0 := hSw.1.cell 0 (.slice A n c) rfl; have o1 := hSw.1.cell 1 (.slice B m d) rfl; have o2 := hSw.1.cell 2 (.slice (some ⟨g', 0, none⟩) (k + 1) cap') rfl; go_simp; try with_reducible rfl)
          try simp only [Act.put, List.setIfInBounds_toArray, List.set_cons_zero, List.set_cons_succ]
          refine wpAnyH_take (i := 1) (oi := { dst := some 50, op := Op.move (Operand.tmp 9), type := 9, pos := "ref.go:76", after := #[], guard := none }) (v := ?_) rfl (by kernel_rfl) (by kernel_rfl) (by kernel_rfl) (fun _ _ _ h => h) (Or.inl ⟨rfl, ?_⟩) hHeld ?_
          rotate_left
          · (intro wz hSw; (try dsimp only at hSw); go_simp; try with_reducible rfl)
          try simp only [Act.put, List.setIfInBounds_toArray, List.set_cons_zero, List.set_cons_succ]
          refine wpAnyH_ready (rs := [2]) (by kernel_rfl) (by simp) ?_
          refine AllReadyH.cons (o := { dst := some 51, op := Op.call { callee := Callee.value (Operand.func 51), args := #[Operand.tmp 50], argTypes := #[9] }, type := 4, pos := "ref.go:76", after := #[{ on := 1, ground := Ground.data }], guard := none }) rfl (fun K hK => ?_) (AllReadyH.nil)
          go_simp
          go_at_call 51
          refine (L.rname_any t ht9 _).mono ?_
          rintro r vq ⟨rfl, rfl⟩
          rw [hn]
          have hN := (show (fun w' => Has O #[.slice A n c, .slice B m d, .slice (some ⟨g', 0, none⟩) (k + 1) cap'] 26 w' ∧ Below base w w' ∧ Du.Keep O w w') _ from hHeld)
          clear hHeld
          refine hK.out _ _ hN (fun hHeld => ?_)
          clear hK K hN
          try simp only [Act.put, List.setIfInBounds_toArray, List.set_cons_zero, List.set_cons_succ]
          refine wpAnyH_take (i := 3) (oi := { dst := some 52, op := Op.move (Operand.tmp 51), type := 4, pos := "ref.go:76", after := #[{ on := 2, ground := Ground.data }, { on := 2, ground := Ground.chain }], guard := none }) (v := ?_) rfl (by kernel_rfl) (by kernel_rfl) (by kernel_rfl) (fun _ _ _ h => h) (Or.inl ⟨rfl, ?_⟩) hHeld ?_
          rotate_left
          · (intro wz hSw; (try dsimp only at hSw); go_simp; try with_reducible rfl)
          try simp only [Act.put, List.setIfInBounds_toArray, List.set_cons_zero, List.set_cons_succ]
          refine wpAnyH_take (i := 4) (oi := { dst := some 53, op := Op.move (Operand.tmp 1), type := 9, pos := "ref.go:76", after := #[{ on := 3, ground := Ground.guard }, { on := 11, ground := Ground.gcOnly Departure.lateStores }], guard := some (3, true) }) (v := ?_) rfl (by kernel_rfl) (by kernel_rfl) (by kernel_rfl) (fun _ _ _ h => h) (Or.inl ⟨rfl, ?_⟩) hHeld ?_
          rotate_left
          · (intro wz hSw; (try dsimp only at hSw); go_simp; try with_reducible rfl)
          try simp only [Act.put, List.setIfInBounds_toArray, List.set_cons_zero, List.set_cons_succ]
          refine wpAnyH_take (i := 5) (oi := { dst := some 54, op := Op.move (Operand.tmp 1), type := 9, pos := "ref.go:76", after := #[{ on := 3, ground := Ground.guard }], guard := some (3, true) }) (v := ?_) rfl (by kernel_rfl) (by kernel_rfl) (by kernel_rfl) (fun _ _ _ h => h) (Or.inl ⟨rfl, ?_⟩) hHeld ?_
          rotate_left
          · (intro wz hSw; (try dsimp only at hSw); go_simp; try with_reducible rfl)
          try simp only [Act.put, List.setIfInBounds_toArray, List.set_cons_zero, List.set_cons_succ]
          refine wpAnyH_ready (rs := [6, 11]) (by kernel_rfl) (by simp) ?_
          refine AllReadyH.cons (o := { dst := some 55, op := Op.call { callee := Callee.builtin Builtin.len, args := #[Operand.tmp 54], argTypes := #[9] }, type := 3, pos := "ref.go:76", after := #[{ on := 5, ground := Ground.data }, { on := 3, ground := Ground.guard }], guard := some (3, true) }) rfl (fun K hK => ?_) (AllReadyH.cons (o := { dst := none, op := Op.store 26 (Operand.tmp 4) (Operand.tmp 49), type := 0, pos := "ref.go:76", after := #[{ on := 0, ground := Ground.data }, { on := 3, ground := Ground.chain }, { on := 0, ground := Ground.phase }, { on := 1, ground := Ground.textOnly Departure.lateStores }, { on := 2, ground := Ground.textOnly Departure.lateStoresUnsure }, { on := 3, ground := Ground.textOnly Departure.lateStores }, { on := 4, ground := Ground.textOnly Departure.lateStores }, { on := 5, ground := Ground.textOnly Departure.lateStores }, { on := 6, ground := Ground.textOnly Departure.lateStoresUnsure }, { on := 7, ground := Ground.textOnly Departure.lateStores }, { on := 8, ground := Ground.textOnly Departure.lateStores }, { on := 9, ground := Ground.textOnly Departure.lateStores }, { on := 10, ground := Ground.textOnly Departure.lateStores }], guard := none }) rfl (fun K hK => ?_) (AllReadyH.nil))
          · go_simp
            have hN := (show (fun w' => Has O #[.slice A n c, .slice B m d, .slice (some ⟨g', 0, none⟩) (k + 1) cap'] 26 w' ∧ Below base w w' ∧ Du.Keep O w w') _ from hHeld)
            clear hHeld
            refine hK.out _ _ hN (fun hHeld => ?_)
            clear hK K hN
            try simp only [Act.put, List.setIfInBounds_toArray, List.set_cons_zero, List.set_cons_succ]
            refine wpAnyH_take (i := 7) (oi := { dst := some 56, op := Op.binOp BinOp.sub 3 (Operand.tmp 55) (Operand.const (Value.int IntKind.i64 9)) 3, type := 3, pos := "ref.go:76", after := #[{ on := 6, ground := Ground.data }, { on := 3, ground := Ground.guard }, { on := 11, ground := Ground.gcOnly Departure.lateStores }], guard := some (3, true) }) (v := ?_) rfl (by kernel_rfl) (by kernel_rfl) (by kernel_rfl) (fun _ _ _ h => h) (Or.inl ⟨rfl, ?_⟩) hHeld ?_
            rotate_left
            · (intro wz hSw; go_simp; (try simp only [q9]); try with_reducible rfl)
            try simp only [Act.put, List.setIfInBounds_toArray, List.set_cons_zero, List.set_cons_succ]
            refine wpAnyH_take (i := 8) (oi := { dst := some 57, op := Op.index 9 (Operand.tmp 53) (Operand.tmp 56), type := 5, pos := "ref.go:76", after := #[{ on := 4, ground := Ground.data }, { on := 7, ground := Ground.data }, { on := 3, ground := Ground.guard }, { on := 11, ground := Ground.gcOnly Departure.lateStores }], guard := some (3, true) }) (v := ?_) rfl (by kernel_rfl) (by kernel_rfl) (by kernel_rfl) (fun _ _ _ h => h) (Or.inl ⟨rfl, ?_⟩) hHeld ?_
            rotate_left
            · (intro wz hSw; (try dsimp only at hSw); go_simp; try with_reducible rfl)
            try simp only [Act.put, List.setIfInBounds_toArray, List.set_cons_zero, List.set_cons_succ]
            refine wpAnyH_take (i := 9) (oi := { dst := some 58, op := Op.binOp BinOp.eql 5 (Operand.tmp 57) (Operand.const (Value.int IntKind.u8 32)) 5, type := 4, pos := "ref.go:76", after := #[{ on := 8, ground := Ground.data }, { on := 3, ground := Ground.guard }, { on := 11, ground := Ground.gcOnly Departure.lateStores }], guard := some (3, true) }) (v := ?_) rfl (by kernel_rfl) (by kernel_rfl) (by kernel_rfl) (fun _ _ _ h => h) (Or.inl ⟨rfl, ?_⟩) hHeld ?_
            rotate_left
            · (intro wz hSw; (try dsimp only at hSw); go_simp; try with_reducible rfl)
            try simp only [Act.put, List.setIfInBounds_toArray, List.set_cons_zero, List.set_cons_succ]
            refine wpAnyH_take (i := 10) (oi := { dst := some 59, op := Op.pick (Operand.tmp 52) (Operand.tmp 58) (Operand.const (Value.bool false)), type := 4, pos := "ref.go:76", after := #[{ on := 3, ground := Ground.data }, { on := 9, ground := Ground.data }, { on := 11, ground := Ground.gcOnly Departure.lateStores }], guard := none }) (v := ?_) rfl (by kernel_rfl) (by kernel_rfl) (by kernel_rfl) (fun _ _ _ h => h) (Or.inl ⟨rfl, ?_⟩) hHeld ?_
            rotate_left
            · (intro wz hSw; (try dsimp only at hSw); go_simp; try with_reducible rfl)
            try simp only [Act.put, List.setIfInBounds_toArray, List.set_cons_zero, List.set_cons_succ]
            refine wpAnyH_ready (rs := [11]) (by kernel_rfl) (by simp) ?_
            refine AllReadyH.cons (o := { dst := none, op := Op.store 26 (Operand.tmp 4) (Operand.tmp 49), type := 0, pos := "ref.go:76", after := #[{ on := 0, ground := Ground.data }, { on := 3, ground := Ground.chain }, { on := 0, ground := Ground.phase }, { on := 1, ground := Ground.textOnly Departure.lateStores }, { on := 2, ground := Ground.textOnly Departure.lateStoresUnsure }, { on := 3, ground := Ground.textOnly Departure.lateStores }, { on := 4, ground := Ground.textOnly Departure.lateStores }, { on := 5, ground := Ground.textOnly Departure.lateStores }, { on := 6, ground := Ground.textOnly Departure.lateStoresUnsure }, { on := 7, ground := Ground.textOnly Departure.lateStores }, { on := 8, ground := Ground.textOnly Departure.lateStores }, { on := 9, ground := Ground.textOnly Departure.lateStores }, { on := 10, ground := Ground.textOnly Departure.lateStores }], guard := none }) rfl (fun K hK => ?_) (AllReadyH.nil)
            refine wp_store_row 26 (.tmp 4) (.tmp 49) rfl R #[.slice A n c, .slice B m d, .slice (some ⟨g', 0, none⟩) (k + 1) cap'] rfl rfl 26 _ hRF.out (Ob.info26 _ _ _) rfl (Ob.oneS _ _ _ _ _ _ _ _ _) ?_
            have hZs := hZF.out
            have hN0 := hHeld.1.rowOther (fun q => hOR q) #[.slice A n c, .slice B m d, .slice (some ⟨g', 0, none⟩) (k + 1) cap']
            have hN1 := Bel.setRow hHeld.2.1 hRl #[.slice A n c, .slice B m d, .slice (some ⟨g', 0, none⟩) (k + 1) cap']
            have hN2 := hHeld.2.2.row hOR' #[.slice A n c, .slice B m d, .slice (some ⟨g', 0, none⟩) (k + 1) cap']
            have hN := (show (fun w' => Has O #[.slice A n c, .slice B m d, .slice (some ⟨g', 0, none⟩) (k + 1) cap'] 26 w' ∧ Below base w w' ∧ Du.Keep O w w') _ from ⟨hN0, hN1, hN2⟩)
            clear hHeld
            refine hK.out _ _ hN (fun hHeld => ?_)
            clear hK K hN
            try simp only [Act.put, List.setIfInBounds_toArray, List.set_cons_zero, List.set_cons_succ]
            refine wpAnyH_take (i := 12) (oi := { dst := some 5, op := Op.assign (Operand.tmp 59), type := 4, pos := "ref.go:76", after := #[{ on := 10, ground := Ground.data }, { on := 11, ground := Ground.chain }, { on := 0, ground := Ground.phase }, { on := 1, ground := Ground.phase }, { on := 2, ground := Ground.phase }, { on := 3, ground := Ground.phase }, { on := 4, ground := Ground.phase }, { on := 5, ground := Ground.phase }, { on := 6, ground := Ground.phase }, { on := 7, ground := Ground.phase }, { on := 8, ground := Ground.phase }, { on := 9, ground := Ground.phase }, { on := 10, ground := Ground.phase }, { on := 11, ground := Ground.phase }], guard := none }) (v := ?_) rfl (by kernel_rfl) (by kernel_rfl) (by kernel_rfl) (fun _ _ _ h => h) (Or.inl ⟨rfl, ?_⟩) hHeld ?_
            rotate_left
            · (intro wz hSw; (try dsimp only at hSw); go_simp; try with_reducible rfl)
            try simp only [Act.put, List.setIfInBounds_toArray, List.set_cons_zero, List.set_cons_succ]
            refine wpAnyH_done (by kernel_rfl) ?_ _
            go_wp2
            refine bodyPost_ret (results_has2 rfl R rfl (hRF.out.row _) Try.underlying26 rfl (Ob.info26 _ _ _)) rfl ?_
            exact ⟨_, _, _, A, n, c, B, m, d, (some ⟨g', 0, none⟩), (k + 1), cap', rfl, hZF.out.hP.otherRow hRF.out (by decide) _, hZF.out.hQ.otherRow hRF.out (by decide) _, hZF.out.hY.otherRow hRF.out (by decide) _, hHeld.2.1, (fun W1 S1 Y1 q => by cases q; exact ⟨rfl, rfl, rfl⟩), fun g cs h => (hHeld.2.2 g cs h).2⟩
          · refine wp_store_row 26 (.tmp 4) (.tmp 49) rfl R #[.slice A n c, .slice B m d, .slice (some ⟨g', 0, none⟩) (k + 1) cap'] rfl rfl 26 _ hRF.out (Ob.info26 _ _ _) rfl (Ob.oneS _ _ _ _ _ _ _ _ _) ?_
            have hZs := hZF.out
            have hN0 := hHeld.1.rowOther (fun q => hOR q) #[.slice A n c, .slice B m d, .slice (some ⟨g', 0, none⟩) (k + 1) cap']
            have hN1 := Bel.setRow hHeld.2.1 hRl #[.slice A n c, .slice B m d, .slice (some ⟨g', 0, none⟩) (k + 1) cap']
            have hN2 := hHeld.2.2.row hOR' #[.slice A n c, .slice B m d, .slice (some ⟨g', 0, none⟩) (k + 1) cap']
            have hN := (show (fun w' => Has O #[.slice A n c, .slice B m d, .slice (some ⟨g', 0, none⟩) (k + 1) cap'] 26 w' ∧ Below base w w' ∧ Du.Keep O w w') _ from ⟨hN0, hN1, hN2⟩)
            clear hHeld
            refine hK.out _ _ hN (fun hHeld => ?_)
            clear hK K hN
            try simp only [Act.put, List.setIfInBounds_toArray, List.set_cons_zero, List.set_cons_succ]
            refine wpAnyH_ready (rs := [6]) (by kernel_rfl) (by simp) ?_
            refine AllReadyH.cons (o := { dst := some 55, op := Op.call { callee := Callee.builtin Builtin.len, args := #[Operand.tmp 54], argTypes := #[9] }, type := 3, pos := "ref.go:76", after := #[{ on := 5, ground := Ground.data }, { on := 3, ground := Ground.guard }], guard := some (3, true) }) rfl (fun K hK => ?_) (AllReadyH.nil)
            go_simp
            have hN := (show (fun w' => Has O #[.slice A n c, .slice B m d, .slice (some ⟨g', 0, none⟩) (k + 1) cap'] 26 w' ∧ Below base w w' ∧ Du.Keep O w w') _ from hHeld)
            clear hHeld
            refine hK.out _ _ hN (fun hHeld => ?_)
            clear hK K hN
            try simp only [Act.put, List.setIfInBounds_toArray, List.set_cons_zero, List.set_cons_succ]
            refine wpAnyH_take (i := 7) (oi := { dst := some 56, op := Op.binOp BinOp.sub 3 (Operand.tmp 55) (Operand.const (Value.int IntKind.i64 9)) 3, type := 3, pos := "ref.go:76", after := #[{ on := 6, ground := Ground.data }, { on := 3, ground := Ground.guard }, { on := 11, ground := Ground.gcOnly Departure.lateStores }], guard := some (3, true) }) (v := ?_) rfl (by kernel_rfl) (by kernel_rfl) (by kernel_rfl) (fun _ _ _ h => h) (Or.inl ⟨rfl, ?_⟩) hHeld ?_
            rotate_left
            · (intro wz hSw; go_simp; (try simp only [q9]); try with_reducible rfl)
            try simp only [Act.put, List.setIfInBounds_toArray, List.set_cons_zero, List.set_cons_succ]
            refine wpAnyH_take (i := 8) (oi := { dst := some 57, op := Op.index 9 (Operand.tmp 53) (Operand.tmp 56), type := 5, pos := "ref.go:76", after := #[{ on := 4, ground := Ground.data }, { on := 7, ground := Ground.data }, { on := 3, ground := Ground.guard }, { on := 11, ground := Ground.gcOnly Departure.lateStores }], guard := some (3, true) }) (v := ?_) rfl (by kernel_rfl) (by kernel_rfl) (by kernel_rfl) (fun _ _ _ h => h) (Or.inl ⟨rfl, ?_⟩) hHeld ?_
            rotate_left
            · (intro wz hSw; (try dsimp only at hSw); go_simp; try with_reducible rfl)
            try simp only [Act.put, List.setIfInBounds_toArray, List.set_cons_zero, List.set_cons_succ]
            refine wpAnyH_take (i := 9) (oi := { dst := some 58, op := Op.binOp BinOp.eql 5 (Operand.tmp 57) (Operand.const (Value.int IntKind.u8 32)) 5, type := 4, pos := "ref.go:76", after := #[{ on := 8, ground := Ground.data }, { on := 3, ground := Ground.guard }, { on := 11, ground := Ground.gcOnly Departure.lateStores }], guard := some (3, true) }) (v := ?_) rfl (by kernel_rfl) (by kernel_rfl) (by kernel_rfl) (fun _ _ _ h => h) (Or.inl ⟨rfl, ?_⟩) hHeld ?_
            rotate_left
            · (intro wz hSw; (try dsimp only at hSw); go_simp; try with_reducible rfl)
            try simp only [Act.put, List.setIfInBounds_toArray, List.set_cons_zero, List.set_cons_succ]
            refine wpAnyH_take (i := 10) (oi := { dst := some 59, op := Op.pick (Operand.tmp 52) (Operand.tmp 58) (Operand.const (Value.bool false)), type := 4, pos := "ref.go:76", after := #[{ on := 3, ground := Ground.data }, { on := 9, ground := Ground.data }, { on := 11, ground := Ground.gcOnly Departure.lateStores }], guard := none }) (v := ?_) rfl (by kernel_rfl) (by kernel_rfl) (by kernel_rfl) (fun _ _ _ h => h) (Or.inl ⟨rfl, ?_⟩) hHeld ?_
            rotate_left
            · (intro wz hSw; (try dsimp only at hSw); go_simp; try with_reducible rfl)
            try simp only [Act.put, List.setIfInBounds_toArray, List.set_cons_zero, List.set_cons_succ]
            refine wpAnyH_take (i := 12) (oi := { dst := some 5, op := Op.assign (Operand.tmp 59), type := 4, pos := "ref.go:76", after := #[{ on := 10, ground := Ground.data }, { on := 11, ground := Ground.chain }, { on := 0, ground := Ground.phase }, { on := 1, ground := Ground.phase }, { on := 2, ground := Ground.phase }, { on := 3, ground := Ground.phase }, { on := 4, ground := Ground.phase }, { on := 5, ground := Ground.phase }, { on := 6, ground := Ground.phase }, { on := 7, ground := Ground.phase }, { on := 8, ground := Ground.phase }, { on := 9, ground := Ground.phase }, { on := 10, ground := Ground.phase }, { on := 11, ground := Ground.phase }], guard := none }) (v := ?_) rfl (by kernel_rfl) (by kernel_rfl) (by kernel_rfl) (fun _ _ _ h => h) (Or.inl ⟨rfl, ?_⟩) hHeld ?_
            rotate_left
            · (intro wz hSw; (try dsimp only at hSw); go_simp; try with_reducible rfl)
            try simp only [Act.put, List.setIfInBounds_toArray, List.set_cons_zero, List.set_cons_succ]
            refine wpAnyH_done (by kernel_rfl) ?_ _
            go_wp2
            refine bodyPost_ret (results_has2 rfl R rfl (hRF.out.row _) Try.underlying26 rfl (Ob.info26 _ _ _)) rfl ?_
            exact ⟨_, _, _, A, n, c, B, m, d, (some ⟨g', 0, none⟩), (k + 1), cap', rfl, hZF.out.hP.otherRow hRF.out (by decide) _, hZF.out.hQ.otherRow hRF.out (by decide) _, hZF.out.hY.otherRow hRF.out (by decide) _, hHeld.2.1, (fun W1 S1 Y1 q => by cases q; exact ⟨rfl, rfl, rfl⟩), fun g cs h => (hHeld.2.2 g cs h).2⟩
        · have z32 : (y == 32) = false := by simpa using c32
          have X1 := hY4.out (fun q => c32 q.2)
          subst X1
          clear hY3 hY4
          refine wp_region_held_drew (S := fun w' => Has O #[.slice A n c, .slice B m d, .slice (some ⟨g', 0, none⟩) (k + 1) cap'] 26 w' ∧ Below base w w' ∧ Du.Keep O w w') (by kernel_rfl) ⟨hZF.out.hG.drew, hEF.out.drew, hKF.out.drew⟩ (fun hHeld => ?_)
          replace hZF := Lib.hid hZF.out.drew
          replace hRF := Lib.hid hRF.out.drew
          clear hEF hKF
          revert hHeld hZF hRF
          generalize w9.drew = v0
          intro hHeld hZF hRF
          refine wpAnyH_take (i := 0) (oi := { dst := some 49, op := Op.load 26 (Operand.tmp 2), type := 26, pos := "ref.go:76", after := #[], guard := none }) (v := ?_) rfl (by kernel_rfl) (by kernel_rfl) (by kernel_rfl) (fun _ _ _ h => h) (Or.inl ⟨rfl, ?_⟩) hHeld ?_
          rotate_left
          · (intro wz hSw; have o0 := hSw.1.cell 0 (.slice A n c) rfl; have o1 := hSw.1.cell 1 (.slice B m d) rfl; have o2 := hSw.1.cell 2 (.slice (some ⟨g', 0, none⟩) (k + 1) cap') rfl; go_simp; try with_reducible rfl)
          try simp only [Act.put, List.setIfInBounds_toArray, List.set_cons_zero, List.set_cons_succ]
          refine wpAnyH_take (i := 1) (oi := { dst := some 50, op := Op.move (Operand.tmp 9), type := 9, pos := "ref.go:76", after := #[], guard := none }) (v := ?_) rfl (by kernel_rfl) (by kernel_rfl) (by kernel_rfl) (fun _ _ _ h => h) (Or.inl ⟨rfl, ?_⟩) hHeld ?_
          rotate_left
          · (intro wz hSw; (try dsimp only at hSw); go_simp; try with_reducible rfl)
          try simp only [Act.put, List.setIfInBounds_toArray, List.set_cons_zero, List.set_cons_succ]
          refine wpAnyH_ready (rs := [2]) (by kernel_rfl) (by simp) ?_
          refine AllReadyH.cons (o := { dst := some 51, op := Op.call { callee := Callee.value (Operand.func 51), args := #[Operand.tmp 50], argTypes := #[9] }, type := 4, pos := "ref.go:76", after := #[{ on := 1, ground := Ground.data }], guard := none }) rfl (fun K hK => ?_) (AllReadyH.nil)
          go_simp
          go_at_call 51
          refine (L.rname_any t ht9 _).mono ?_
          rintro r vq ⟨rfl, rfl⟩
          rw [hn]
          have hN := (show (fun w' => Has O #[.slice A n c, .slice B m d, .slice (some ⟨g', 0, none⟩) (k + 1) cap'] 26 w' ∧ Below base w w' ∧ Du.Keep O w w') _ from hHeld)
          clear hHeld
          refine hK.out _ _ hN (fun hHeld => ?_)
          clear hK K hN
          try simp only [Act.put, List.setIfInBounds_toArray, List.set_cons_zero, List.set_cons_succ]
          refine wpAnyH_take (i := 3) (oi := { dst := some 52, op := Op.move (Operand.tmp 51), type := 4, pos := "ref.go:76", after := #[{ on := 2, ground := Ground.data }, { on := 2, ground := Ground.chain }], guard := none }) (v := ?_) rfl (by kernel_rfl) (by kernel_rfl) (by kernel_rfl) (fun _ _ _ h => h) (Or.inl ⟨rfl, ?_⟩) hHeld ?_
          rotate_left
          · (intro wz hSw; (try dsimp only at hSw); go_simp; try with_reducible rfl)
          try simp only [Act.put, List.setIfInBounds_toArray, List.set_cons_zero, List.set_cons_succ]
          refine wpAnyH_take (i := 4) (oi := { dst := some 53, op := Op.move (Operand.tmp 1), type := 9, pos := "ref.go:76", after := #[{ on := 3, ground := Ground.guard }, { on := 11, ground := Ground.gcOnly Departure.lateStores }], guard := some (3, true) }) (v := ?_) rfl (by kernel_rfl) (by kernel_rfl) (by kernel_rfl) (fun _ _ _ h => h) (Or.inl ⟨rfl, ?_⟩) hHeld ?_
          rotate_left
          · (intro wz hSw; (try dsimp only at hSw); go_simp; try with_reducible rfl)
          try simp only [Act.put, List.setIfInBounds_toArray, List.set_cons_zero, List.set_cons_succ]
          refine wpAnyH_take (i := 5) (oi := { dst := some 54, op := Op.move (Operand.tmp 1), type := 9, pos := "ref.go:76", after := #[{ on := 3, ground := Ground.guard }], guard := some (3, true) }) (v := ?_) rfl (by kernel_rfl) (by kernel_rfl) (by kernel_rfl) (fun _ _ _ h => h) (Or.inl ⟨rfl, ?_⟩) hHeld ?_
          rotate_left
          · (intro wz hSw; (try dsimp only at hSw); go_simp; try with_reducible rfl)
          try simp only [Act.put, List.setIfInBounds_toArray, List.set_cons_zero, List.set_cons_succ]
          refine wpAnyH_ready (rs := [6, 11]) (by kernel_rfl) (by simp) ?_
          refine AllReadyH.cons (o := { dst := some 55, op := Op.call { callee := Callee.builtin Builtin.len, args := #[Operand.tmp 54], argTypes := #[9] }, type := 3, pos := "ref.go:76", after := #[{ on := 5, ground := Ground.data }, { on := 3, ground := Ground.guard }], guard := some (3, true) }) rfl (fun K hK => ?_) (AllReadyH.cons (o := { dst := none, op := Op.store 26 (Operand.tmp 4) (Operand.tmp 49), type := 0, pos := "ref.go:76", after := #[{ on := 0, ground := Ground.data }, { on := 3, ground := Ground.chain }, { on := 0, ground := Ground.phase }, { on := 1, ground := Ground.textOnly Departure.lateStores }, { on := 2, ground := Ground.textOnly Departure.lateStoresUnsure }, { on := 3, ground := Ground.textOnly Departure.lateStores }, { on := 4, ground := Ground.textOnly Departure.lateStores }, { on := 5, ground := Ground.textOnly Departure.lateStores }, { on := 6, ground := Ground.textOnly Departure.lateStoresUnsure }, { on := 7, ground := Ground.textOnly Departure.lateStores }, { on := 8, ground := Ground.textOnly Departure.lateStores }, { on := 9, ground := Ground.textOnly Departure.lateStores }, { on := 10, ground := Ground.textOnly Departure.lateStores }], guard := none }) rfl (fun K hK => ?_) (AllReadyH.nil))
          · go_simp
            have hN := (show (fun w' => Has O #[.slice A n c, .slice B m d, .slice (some ⟨g', 0, none⟩) (k + 1) cap'] 26 w' ∧ Below base w w' ∧ Du.Keep O w w') _ from hHeld)
            clear hHeld
            refine hK.out _ _ hN (fun hHeld => ?_)
            clear hK K hN
            try simp only [Act.put, List.setIfInBounds_toArray, List.set_cons_zero, List.set_cons_succ]
            refine wpAnyH_take (i := 7) (oi := { dst := some 56, op := Op.binOp BinOp.sub 3 (Operand.tmp 55) (Operand.const (Value.int IntKind.i64 9)) 3, type := 3, pos := "ref.go:76", after := #[{ on := 6, ground := Ground.data }, { on := 3, ground := Ground.guard }, { on := 11, ground := Ground.gcOnly Departure.lateStores }], guard := some (3, true) }) (v := ?_) rfl (by kernel_rfl) (by kernel_rfl) (by kernel_rfl) (fun _ _ _ h => h) (Or.inl ⟨rfl, ?_⟩) hHeld ?_
            rotate_left
            · (intro wz hSw; go_simp; (try simp only [q9]); try with_reducible rfl)
            try simp only [Act.put, List.setIfInBounds_toArray, List.set_cons_zero, List.set_cons_succ]
            refine wpAnyH_take (i := 8) (oi := { dst := some 57, op := Op.index 9 (Operand.tmp 53) (Operand.tmp 56), type := 5, pos := "ref.go:76", after := #[{ on := 4, ground := Ground.data }, { on := 7, ground := Ground.data }, { on := 3, ground := Ground.guard }, { on := 11, ground := Ground.gcOnly Departure.lateStores }], guard := some (3, true) }) (v := ?_) rfl (by kernel_rfl) (by kernel_rfl) (by kernel_rfl) (fun _ _ _ h => h) (Or.inl ⟨rfl, ?_⟩) hHeld ?_
            rotate_left
            · (intro wz hSw; (try dsimp only at hSw); go_simp; try with_reducible rfl)
            try simp only [Act.put, List.setIfInBounds_toArray, List.set_cons_zero, List.set_cons_succ]
            refine wpAnyH_take (i := 9) (oi := { dst := some 58, op := Op.binOp BinOp.eql 5 (Operand.tmp 57) (Operand.const (Value.int IntKind.u8 32)) 5, type := 4, pos := "ref.go:76", after := #[{ on := 8, ground := Ground.data }, { on := 3, ground := Ground.guard }, { on := 11, ground := Ground.gcOnly Departure.lateStores }], guard := some (3, true) }) (v := ?_) rfl (by kernel_rfl) (by kernel_rfl) (by kernel_rfl) (fun _ _ _ h => h) (Or.inl ⟨rfl, ?_⟩) hHeld ?_
            rotate_left
            · (intro wz hSw; (try dsimp only at hSw); go_simp; try with_reducible rfl)
            try simp only [Act.put, List.setIfInBounds_toArray, List.set_cons_zero, List.set_cons_succ]
            refine wpAnyH_take (i := 10) (oi := { dst := some 59, op := Op.pick (Operand.tmp 52) (Operand.tmp 58) (Operand.const (Value.bool false)), type := 4, pos := "ref.go:76", after := #[{ on := 3, ground := Ground.data }, { on := 9, ground := Ground.data }, { on := 11, ground := Ground.gcOnly Departure.lateStores }], guard := none }) (v := ?_) rfl (by kernel_rfl) (by kernel_rfl) (by kernel_rfl) (fun _ _ _ h => h) (Or.inl ⟨rfl, ?_⟩) hHeld ?_
            rotate_left
            · (intro wz hSw; (try dsimp only at hSw); go_simp; try with_reducible rfl)
            try simp only [Act.put, List.setIfInBounds_toArray, List.set_cons_zero, List.set_cons_succ]
            refine wpAnyH_ready (rs := [11]) (by kernel_rfl) (by simp) ?_
            refine AllReadyH.cons (o := { dst := none, op := Op.store 26 (Operand.tmp 4) (Operand.tmp 49), type := 0, pos := "ref.go:76", after := #[{ on := 0, ground := Ground.data }, { on := 3, ground := Ground.chain }, { on := 0, ground := Ground.phase }, { on := 1, ground := Ground.textOnly Departure.lateStores }, { on := 2, ground := Ground.textOnly Departure.lateStoresUnsure }, { on := 3, ground := Ground.textOnly Departure.lateStores }, { on := 4, ground := Ground.textOnly Departure.lateStores }, { on := 5, ground := Ground.textOnly Departure.lateStores }, { on := 6, ground := Ground.textOnly Departure.lateStoresUnsure }, { on := 7, ground := Ground.textOnly Departure.lateStores }, { on := 8, ground := Ground.textOnly Departure.lateStores }, { on := 9, ground := Ground.textOnly Departure.lateStores }, { on := 10, ground := Ground.textOnly Departure.lateStores }], guard := none }) rfl (fun K hK => ?_) (AllReadyH.nil)
            refine wp_store_row 26 (.tmp 4) (.tmp 49) rfl R #[.slice A n c, .slice B m d, .slice (some ⟨g', 0, none⟩) (k + 1) cap'] rfl rfl 26 _ hRF.out (Ob.info26 _ _ _) rfl (Ob.oneS _ _ _ _ _ _ _ _ _) ?_
            have hZs := hZF.out
            have hN0 := hHeld.1.rowOther (fun q => hOR q) #[.slice A n c, .slice B m d, .slice (some ⟨g', 0, none⟩) (k + 1) cap']
            have hN1 := Bel.setRow hHeld.2.1 hRl #[.slice A n c, .slice B m d, .slice (some ⟨g', 0, none⟩) (k + 1) cap']
            have hN2 := hHeld.2.2.row hOR' #[.slice A n c, .slice B m d, .slice (some ⟨g', 0, none⟩) (k + 1) cap']
            have hN := (show (fun w' => Has O #[.slice A n c, .slice B m d, .slice (some ⟨g', 0, none⟩) (k + 1) cap'] 26 w' ∧ Below base w w' ∧ Du.Keep O w w') _ from ⟨hN0, hN1, hN2⟩)
            clear hHeld
            refine hK.out _ _ hN (fun hHeld => ?_)
            clear hK K hN
            try simp only [Act.put, List.setIfInBounds_toArray, List.set_cons_zero, List.set_cons_succ]
            refine wpAnyH_take (i := 12) (oi := { dst := some 5, op := Op.assign (Operand.tmp 59), type := 4, pos := "ref.go:76", after := #[{ on := 10, ground := Ground.data }, { on := 11, ground := Ground.chain }, { on := 0, ground := Ground.phase }, { on := 1, ground := Ground.phase }, { on := 2, ground := Ground.phase }, { on := 3, ground := Ground.phase }, { on := 4, ground := Ground.phase }, { on := 5, ground := Ground.phase }, { on := 6, ground := Ground.phase }, { on := 7, ground := Ground.phase }, { on := 8, ground := Ground.phase }, { on := 9, ground := Ground.phase }, { on := 10, ground := Ground.phase }, { on := 11, ground := Ground.phase }], guard := none }) (v := ?_) rfl (by kernel_rfl) (by kernel_rfl) (by kernel_rfl) (fun _ _ _ h => h) (Or.inl ⟨rfl, ?_⟩) hHeld ?_
            rotate_left
            · (intro wz hSw; (try dsimp only at hSw); go_simp; try with_reducible rfl)
            try simp only [Act.put, List.setIfInBounds_toArray, List.set_cons_zero, List.set_cons_succ]
            refine wpAnyH_done (by kernel_rfl) ?_ _
            go_wp2
            refine bodyPost_ret (results_has2 rfl R rfl (hRF.out.row _) Try.underlying26 rfl (Ob.info26 _ _ _)) rfl ?_
            exact ⟨_, _, _, A, n, c, B, m, d, (some ⟨g', 0, none⟩), (k + 1), cap', rfl, hZF.out.hP.otherRow hRF.out (by decide) _, hZF.out.hQ.otherRow hRF.out (by decide) _, hZF.out.hY.otherRow hRF.out (by decide) _, hHeld.2.1, (fun _ _ _ q => by cases q), fun g cs h => (hHeld.2.2 g cs h).2⟩
          · refine wp_store_row 26 (.tmp 4) (.tmp 49) rfl R #[.slice A n c, .slice B m d, .slice (some ⟨g', 0, none⟩) (k + 1) cap'] rfl rfl 26 _ hRF.out (Ob.info26 _ _ _) rfl (Ob.oneS _ _ _ _ _ _ _ _ _) ?_
            have hZs := hZF.out
            have hN0 := hHeld.1.rowOther (fun q => hOR q) #[.slice A n c, .slice B m d, .slice (some ⟨g', 0, none⟩) (k + 1) cap']
            have hN1 := Bel.setRow hHeld.2.1 hRl #[.slice A n c, .slice B m d, .slice (some ⟨g', 0, none⟩) (k + 1) cap']
            have hN2 := hHeld.2.2.row hOR' #[.slice A n c, .slice B m d, .slice (some ⟨g', 0, none⟩) (k + 1) cap']
            have hN := (show (fun w' => Has O #[.slice A n c, .slice B m d, .slice (some ⟨g', 0, none⟩) (k + 1) cap'] 26 w' ∧ Below base w w' ∧ Du.Keep O w w') _ from ⟨hN0, hN1, hN2⟩)
            clear hHeld
            refine hK.out _ _ hN (fun hHeld => ?_)
            clear hK K hN
            try simp only [Act.put, List.setIfInBounds_toArray, List.set_cons_zero, List.set_cons_succ]
            refine wpAnyH_ready (rs := [6]) (by kernel_rfl) (by simp) ?_
            refine AllReadyH.cons (o := { dst := some 55, op := Op.call { callee := Callee.builtin Builtin.len, args := #[Operand.tmp 54], argTypes := #[9] }, type := 3, pos := "ref.go:76", after := #[{ on := 5, ground := Ground.data }, { on := 3, ground := Ground.guard }], guard := some (3, true) }) rfl (fun K hK => ?_) (AllReadyH.nil)
            go_simp
            have hN := (show (fun w' => Has O #[.slice A n c, .slice B m d, .slice (some ⟨g', 0, none⟩) (k + 1) cap'] 26 w' ∧ Below base w w' ∧ Du.Keep O w w') _ from hHeld)
            clear hHeld
            refine hK.out _ _ hN (fun hHeld => ?_)
            clear hK K hN
            try simp only [Act.put, List.setIfInBounds_toArray, List.set_cons_zero, List.set_cons_succ]
            refine wpAnyH_take (i := 7) (oi := { dst := some 56, op := Op.binOp BinOp.sub 3 (Operand.tmp 55) (Operand.const (Value.int IntKind.i64 9)) 3, type := 3, pos := "ref.go:76", after := #[{ on := 6, ground := Ground.data }, { on := 3, ground := Ground.guard }, { on := 11, ground := Ground.gcOnly Departure.lateStores }], guard := some (3, true) }) (v := ?_) rfl (by kernel_rfl) (by kernel_rfl) (by kernel_rfl) (fun _ _ _ h => h) (Or.inl ⟨rfl, ?_⟩) hHeld ?_
            rotate_left
            · (intro wz hSw; go_simp; (try simp only [q9]); try with_reducible rfl)
            try simp only [Act.put, List.setIfInBounds_toArray, List.set_cons_zero, List.set_cons_succ]
            refine wpAnyH_take (i := 8) (oi := { dst := some 57, op := Op.index 9 (Operand.tmp 53) (Operand.tmp 56), type := 5, pos := "ref.go:76", after := #[{ on := 4, ground := Ground.data }, { on := 7, ground := Ground.data }, { on := 3, ground := Ground.guard }, { on := 11, ground := Ground.gcOnly Departure.lateStores }], guard := some (3, true) }) (v := ?_) rfl (by kernel_rfl) (by kernel_rfl) (by kernel_rfl) (fun _ _ _ h => h) (Or.inl ⟨rfl, ?_⟩) hHeld ?_
            rotate_left
            · (intro wz hSw; (try dsimp only at hSw); go_simp; try with_reducible rfl)
            try simp only [Act.put, List.setIfInBounds_toArray, List.set_cons_zero, List.set_cons_succ]
            refine wpAnyH_take (i := 9) (oi := { dst := some 58, op := Op.binOp BinOp.eql 5 (Operand.tmp 57) (Operand.const (Value.int IntKind.u8 32)) 5, type := 4, pos := "ref.go:76", after := #[{ on := 8, ground := Ground.data }, { on := 3, ground := Ground.guard }, { on := 11, ground := Ground.gcOnly Departure.lateStores }], guard := some (3, true) }) (v := ?_) rfl (by kernel_rfl) (by kernel_rfl) (by kernel_rfl) (fun _ _ _ h => h) (Or.inl ⟨rfl, ?_⟩) hHeld ?_
            rotate_left
            · (intro wz hSw; (try dsimp only at hSw); go_simp; try with_reducible rfl)
            try simp only [Act.put, List.setIfInBounds_toArray, List.set_cons_zero, List.set_cons_succ]
            refine wpAnyH_take (i := 10) (oi := { dst := some 59, op := Op.pick (Operand.tmp 52) (Operand.tmp 58) (Operand.const (Value.bool false)), type := 4, pos := "ref.go:76", after := #[{ on := 3, ground := Ground.data }, { on := 9, ground := Ground.data }, { on := 11, ground := Ground.gcOnly Departure.lateStores }], guard := none }) (v := ?_) rfl (by kernel_rfl) (by kernel_rfl) (by kernel_rfl) (fun _ _ _ h => h) (Or.inl ⟨rfl, ?_⟩) hHeld ?_
            rotate_left
            · (intro wz hSw; (try dsimp only at hSw); go_simp; try with_reducible rfl)
            try simp only [Act.put, List.setIfInBounds_toArray, List.set_cons_zero, List.set_cons_succ]
            refine wpAnyH_take (i := 12) (oi := { dst := some 5, op := Op.assign (Operand.tmp 59), type := 4, pos := "ref.go:76", after := #[{ on := 10, ground := Ground.data }, { on := 11, ground := Ground.chain }, { on := 0, ground := Ground.phase }, { on := 1, ground := Ground.phase }, { on := 2, ground := Ground.phase }, { on := 3, ground := Ground.phase }, { on := 4, ground := Ground.phase }, { on := 5, ground := Ground.phase }, { on := 6, ground := Ground.phase }, { on := 7, ground := Ground.phase }, { on := 8, ground := Ground.phase }, { on := 9, ground := Ground.phase }, { on := 10, ground := Ground.phase }, { on := 11, ground := Ground.phase }], guard := none }) (v := ?_) rfl (by kernel_rfl) (by kernel_rfl) (by kernel_rfl) (fun _ _ _ h => h) (Or.inl ⟨rfl, ?_⟩) hHeld ?_
            rotate_left
            · (intro wz hSw; (try dsimp only at hSw); go_simp; try with_reducible rfl)
            try simp only [Act.put, List.setIfInBounds_toArray, List.set_cons_zero, List.set_cons_succ]
            refine wpAnyH_done (by kernel_rfl) ?_ _
            go_wp2
            refine bodyPost_ret (results_has2 rfl R rfl (hRF.out.row _) Try.underlying26 rfl (Ob.info26 _ _ _)) rfl ?_
            exact ⟨_, _, _, A, n, c, B, m, d, (some ⟨g', 0, none⟩), (k + 1), cap', rfl, hZF.out.hP.otherRow hRF.out (by decide) _, hZF.out.hQ.otherRow hRF.out (by decide) _, hZF.out.hY.otherRow hRF.out (by decide) _, hHeld.2.1, (fun _ _ _ q => by cases q), fun g cs h => (hHeld.2.2 g cs h).2⟩
    have h5 : ¬ ((L.bs s).take 5 = Du.nameH ∧ 15 ≤ (L.bs s).length) := fun q => cn ⟨Du.bs_eq (by rw [hhd, q.1]; rfl), by omega⟩
    have hX5 := Lib.hid (fun q => hXe.out.symm.trans (Du.one_5 (o := (W, S, Y)) (l := L.bs s) (by omega) hr h5 q))
    have hX6 := Lib.hid (fun q1 q2 q3 => hXe.out.symm.trans (Du.one_6 (o := (W, S, Y)) (l := L.bs s) q1 hr q2 q3))
    have hX7 := Lib.hid (fun q1 q2 q3 => hXe.out.symm.trans (Du.one_7 (o := (W, S, Y)) (l := L.bs s) q1 hr q2 q3))
    rw [← hhd, hl] at hX5
    rw [← hhd, hl] at hX6 hX7
    have hnm : (hd.toList == [110, 97, 109, 101, 32]) = false ∨ (hd = ⟨#[110, 97, 109, 101, 32]⟩ ∧ s.size < 15) := by
      by_cases q : hd = ⟨#[110, 97, 109, 101, 32]⟩
      · refine Or.inr ⟨q, ?_⟩
        rcases Nat.lt_or_ge s.size 15 with r | r
        · exact r
        · exact absurd ⟨q, r⟩ cn
      · exact Or.inl (Du.list_ne q)
    have o2 := hO.out.hG.cell 2 (.slice C k e) rfl
    clear hXe hhd hr h5
    rcases hnm with z1 | ⟨rfl, c15⟩
    · by_cases c13 : s.size = 13
      case neg =>
        have z13 : ((s.size : Int) == 13) = false := by simp; omega
        have y13 : ((s.size : Int) != 13) = true := by simp; omega
        have X1 := hX5.out (fun q => c13 q.1)
        subst X1
        clear hX5 hX6 hX7
        go_wp2_with (first
          | (with_reducible refine load_has (o := ⟨some 77, _, _, _, _, _⟩) rfl 26 (.tmp 2) rfl O rfl hO.out.hG Try.underlying26 rfl (Ob.info26 _ _ _) ?_)
          | (with_reducible refine store_has (o := ⟨none, _, _, _, _, _⟩) rfl 26 (.tmp 4) (.tmp 77) rfl R #[.slice A n c, .slice B m d, .slice C k e] rfl rfl hR.out (Ob.info26 _ _ _) rfl (Ob.oneS _ _ _ _ _ _ _ _ _) ?_)
          | fail)
        refine bodyPost_ret (results_has2 rfl R rfl (hR.out.row _) Try.underlying26 rfl (Ob.info26 _ _ _)) rfl ?_
        exact ⟨_, _, _, A, n, c, B, m, d, C, k, e, rfl, hO.out.hP.otherRow hR.out (by decide) _, hO.out.hQ.otherRow hR.out (by decide) _, hO.out.hY.otherRow hR.out (by decide) _, Bel.setRow hB.out hRl _, (fun _ _ _ q => by cases q), fun g cs h => (hK.out.row hOR' _ g cs h).2⟩
      have z13 : ((s.size : Int) == 13) = true := by simp; omega
      have y13 : ((s.size : Int) != 13) = false := by simp; omega
      by_cases cY : Y = []
      case neg =>
        have hk0 : 0 < Y.length := List.length_pos_iff.2 cY
        have hk1 : (0 : Int) < k := by omega
        have X1 := hX5.out (fun q => cY q.2.1)
        subst X1
        clear hX5 hX6 hX7
        go_wp2_with (first
          | (with_reducible refine load_has (o := ⟨some 77, _, _, _, _, _⟩) rfl 26 (.tmp 2) rfl O rfl hO.out.hG Try.underlying26 rfl (Ob.info26 _ _ _) ?_)
          | (with_reducible refine store_has (o := ⟨none, _, _, _, _, _⟩) rfl 26 (.tmp 4) (.tmp 77) rfl R #[.slice A n c, .slice B m d, .slice C k e] rfl rfl hR.out (Ob.info26 _ _ _) rfl (Ob.oneS _ _ _ _ _ _ _ _ _) ?_)
          | fail)
        refine bodyPost_ret (results_has2 rfl R rfl (hR.out.row _) Try.underlying26 rfl (Ob.info26 _ _ _)) rfl ?_
        exact ⟨_, _, _, A, n, c, B, m, d, C, k, e, rfl, hO.out.hP.otherRow hR.out (by decide) _, hO.out.hQ.otherRow hR.out (by decide) _, hO.out.hY.otherRow hR.out (by decide) _, Bel.setRow hB.out hRl _, (fun _ _ _ q => by cases q), fun g cs h => (hK.out.row hOR' _ g cs h).2⟩
      subst cY
      have hk0 : k = 0 := by rw [← hkk]; rfl
      subst hk0
      by_cases ca : hd = ⟨#[97, 100, 100, 114, 32]⟩
      · subst ca
        have X1 := hX6.out c13 rfl rfl
        rw [show (W, S, ([] : List Ob.Y)).fst.length = n from hnn] at X1
        subst X1
        clear hX5 hX6 hX7 z1
        go_upto_region 14 with (fail)
        clear o2
        have hA3 := ((Kept.refl w2).alloc #[.int .i64 (n : Int)] 3).below
        have o0 := hO.out.hG.cell 0 (.slice A n c) rfl
        have o1 := hO.out.hG.cell 1 (.slice B m d) rfl
        have hZ3 := Lib.hid (hO.out.below hA3)
        have hR3 := Lib.hid (hR.out.below hA3)
        have hV3 := Lib.hid (Rg.one (Has.new #[.int .i64 (n : Int)] 3 w2))
        have hE3 := Lib.hid (hB.out.trans (hA3.mono hO.out.low))
        have hK3 := Lib.hid (hK.out.below hA3)
        have hs3 := hZ3.out.low
        clear hO hB hR hA3 hK
        go_upto_region 15 with (first
          | (with_reducible refine append_on (o := ⟨some 86, _, _, _, _, _⟩) Try.underlying23 Ch.info64 (by omega) rfl (.tmp 81) (.tmp 85) rfl base B m d S rfl hZ3.out.hQ _ 1 1 [(n : Int)] rfl hV3.out (by omega) (by omega) hs3 ?_
             intro g3 cap3 w5 hO5 hG5
             have f0 := (hZ3.out.hG.grown hG5 (hZ3.out.hQ.ne hZ3.out.hG (by decide))).cell 1 (.slice B m d) rfl
             have f1 := (hZ3.out.hG.grown hG5 (hZ3.out.hQ.ne hZ3.out.hG (by decide))).free 1
             have hZ5 := Lib.hid (hZ3.out.grow1 hG5 hO5.on)
             have hR5 := Lib.hid ((hR3.out.grown hG5 (hZ3.out.hQ.ne hR3.out (by decide))).other (p := ⟨O, 1, none⟩) (fun q => hOR q.symm) (.slice (some ⟨g3, 0, none⟩) (m + 1) cap3))
             have hE5 := Lib.hid ((hE3.out.grown hG5 hs3 hZ3.out.hQ.from).setCell (p := ⟨O, 1, none⟩) hbO (.slice (some ⟨g3, 0, none⟩) (m + 1) cap3))
             have hK5 := Lib.hid ((hK3.out.grown hZ3.out.hQ (by decide) hG5).cell 1 (.slice (some ⟨g3, 0, none⟩) (m + 1) cap3))
             clear hO5 hG5 hs3 hE3 hV3 hZ3 hR3 hK3 o0 o1)
          | fail)
        clear f0 f1
        generalize w5.setCell ⟨O, 1, none⟩ (.slice (some ⟨g3, 0, none⟩) (m + 1) cap3) = w6 at *
        have hA4 := ((Kept.refl w6).alloc #[.int .u32 x] 37).below
        have o0 := hZ5.out.hG.cell 0 (.slice A n c) rfl
        have hZ4 := Lib.hid (hZ5.out.below hA4)
        have hR4 := Lib.hid (hR5.out.below hA4)
        have hV4 := Lib.hid (Rg.one (Has.new #[.int .u32 x] 37 w6))
        have hE4 := Lib.hid (hE5.out.trans (hA4.mono hZ5.out.low))
        have hK4 := Lib.hid (hK5.out.below hA4)
        have hs0 := hZ4.out.low
        clear hZ5 hE5 hR5 hK5 hA4
        go_upto_region 16 with (first
          | (with_reducible refine append_on (o := ⟨some 92, _, _, _, _, _⟩) Try.underlying22 Ch.info32 (by omega) rfl (.tmp 89) (.tmp 91) rfl base A n c W rfl hZ4.out.hP _ 1 1 [x] rfl hV4.out (by omega) (by omega) hs0 ?_
             intro g' cap' w8 hO8 hG8
             have f0 := (hZ4.out.hG.grown hG8 (hZ4.out.hP.ne hZ4.out.hG (by decide))).cell 0 (.slice A n c) rfl
             have f1 := (hZ4.out.hG.grown hG8 (hZ4.out.hP.ne hZ4.out.hG (by decide))).free 0
             have hZF := Lib.hid (hZ4.out.grow0 hG8 hO8.on)
             have hRF := Lib.hid ((hR4.out.grown hG8 (hZ4.out.hP.ne hR4.out (by decide))).other (p := ⟨O, 0, none⟩) (fun q => hOR q.symm) (.slice (some ⟨g', 0, none⟩) (n + 1) cap'))
             have hKF := Lib.hid ((hK4.out.grown hZ4.out.hP (by decide) hG8).cell 0 (.slice (some ⟨g', 0, none⟩) (n + 1) cap'))
             have hEF := Lib.hid ((hE4.out.grown hG8 hs0 hZ4.out.hP.from).setCell (p := ⟨O, 0, none⟩) hbO (.slice (some ⟨g', 0, none⟩) (n + 1) cap'))
             clear hO8 hG8 hs0 hE4 hV4 hZ4 hR4 hK4 o0)
          | fail)
        clear f0 f1
        generalize w8.setCell ⟨O, 0, none⟩ (.slice (some ⟨g', 0, none⟩) (n + 1) cap') = w9 at *
        go_wp2_with (first
          | (with_reducible refine load_has (o := ⟨some 94, _, _, _, _, _⟩) rfl 26 (.tmp 2) rfl O rfl hZF.out.hG Try.underlying26 rfl (Ob.info26 _ _ _) ?_)
          | (with_reducible refine store_has (o := ⟨none, _, _, _, _, _⟩) rfl 26 (.tmp 4) (.tmp 94) rfl R #[.slice (some ⟨g', 0, none⟩) (n + 1) cap', .slice (some ⟨g3, 0, none⟩) (m + 1) cap3, .slice C 0 e] rfl rfl hRF.out (Ob.info26 _ _ _) rfl (Ob.oneS _ _ _ _ _ _ _ _ _) ?_)
          | fail)
        refine bodyPost_ret (results_has2 rfl R rfl (hRF.out.row _) Try.underlying26 rfl (Ob.info26 _ _ _)) rfl ?_
        exact ⟨_, _, _, (some ⟨g', 0, none⟩), (n + 1), cap', (some ⟨g3, 0, none⟩), (m + 1), cap3, C, 0, e, rfl, hZF.out.hP.otherRow hRF.out (by decide) _, hZF.out.hQ.otherRow hRF.out (by decide) _, hZF.out.hY.otherRow hRF.out (by decide) _, Bel.setRow hEF.out hRl _, (fun W1 S1 Y1 q1 q2 q3 => ⟨q1, q2, by rw [q3]⟩), fun g cs h => (hKF.out.row hOR' _ g cs h).2⟩
      by_cases cw : hd = ⟨#[119, 111, 114, 100, 32]⟩
      · subst cw
        have X1 := hX7.out c13 rfl rfl
        subst X1
        clear hX5 hX6 hX7 z1
        go_upto_region 15 with (fail)
        clear o2
        have hA4 := ((Kept.refl w2).alloc #[.int .u32 x] 37).below
        have o0 := hO.out.hG.cell 0 (.slice A n c) rfl
        have hZ4 := Lib.hid (hO.out.below hA4)
        have hR4 := Lib.hid (hR.out.below hA4)
        have hV4 := Lib.hid (Rg.one (Has.new #[.int .u32 x] 37 w2))
        have hE4 := Lib.hid (hB.out.trans (hA4.mono hO.out.low))
        have hK4 := Lib.hid (hK.out.below hA4)
        have hs0 := hZ4.out.low
        clear hO hB hR hK hA4
        go_upto_region 16 with (first
          | (with_reducible refine append_on (o := ⟨some 92, _, _, _, _, _⟩) Try.underlying22 Ch.info32 (by omega) rfl (.tmp 89) (.tmp 91) rfl base A n c W rfl hZ4.out.hP _ 1 1 [x] rfl hV4.out (by omega) (by omega) hs0 ?_
             intro g' cap' w8 hO8 hG8
             have f0 := (hZ4.out.hG.grown hG8 (hZ4.out.hP.ne hZ4.out.hG (by decide))).cell 0 (.slice A n c) rfl
             have f1 := (hZ4.out.hG.grown hG8 (hZ4.out.hP.ne hZ4.out.hG (by decide))).free 0
             have hZF := Lib.hid (hZ4.out.grow0 hG8 hO8.on)
             have hRF := Lib.hid ((hR4.out.grown hG8 (hZ4.out.hP.ne hR4.out (by decide))).other (p := ⟨O, 0, none⟩) (fun q => hOR q.symm) (.slice (some ⟨g', 0, none⟩) (n + 1) cap'))
             have hKF := Lib.hid ((hK4.out.grown hZ4.out.hP (by decide) hG8).cell 0 (.slice (some ⟨g', 0, none⟩) (n + 1) cap'))
             have hEF := Lib.hid ((hE4.out.grown hG8 hs0 hZ4.out.hP.from).setCell (p := ⟨O, 0, none⟩) hbO (.slice (some ⟨g', 0, none⟩) (n + 1) cap'))
             clear hO8 hG8 hs0 hE4 hV4 hZ4 hR4 hK4 o0)
          | fail)
        clear f0 f1
        generalize w8.setCell ⟨O, 0, none⟩ (.slice (some ⟨g', 0, none⟩) (n + 1) cap') = w9 at *
        go_wp2_with (first
          | (with_reducible refine load_has (o := ⟨some 94, _, _, _, _, _⟩) rfl 26 (.tmp 2) rfl O rfl hZF.out.hG Try.underlying26 rfl (Ob.info26 _ _ _) ?_)
          | (with_reducible refine store_has (o := ⟨none, _, _, _, _, _⟩) rfl 26 (.tmp 4) (.tmp 94) rfl R #[.slice (some ⟨g', 0, none⟩) (n + 1) cap', .slice B m d, .slice C 0 e] rfl rfl hRF.out (Ob.info26 _ _ _) rfl (Ob.oneS _ _ _ _ _ _ _ _ _) ?_)
          | fail)
        refine bodyPost_ret (results_has2 rfl R rfl (hRF.out.row _) Try.underlying26 rfl (Ob.info26 _ _ _)) rfl ?_
        exact ⟨_, _, _, (some ⟨g', 0, none⟩), (n + 1), cap', B, m, d, C, 0, e, rfl, hZF.out.hP.otherRow hRF.out (by decide) _, hZF.out.hQ.otherRow hRF.out (by decide) _, hZF.out.hY.otherRow hRF.out (by decide) _, Bel.setRow hEF.out hRl _, (fun W1 S1 Y1 q1 q2 q3 => ⟨q1, q2, by rw [q3]⟩), fun g cs h => (hKF.out.row hOR' _ g cs h).2⟩
      have z2 : (hd.toList == [97, 100, 100, 114, 32]) = false := Du.list_ne ca
      have z3 : (hd.toList == [119, 111, 114, 100, 32]) = false := Du.list_ne cw
      have y2 : (hd.toList != [97, 100, 100, 114, 32]) = true := by unfold bne; rw [z2]; rfl
      have y3 : (hd.toList != [119, 111, 114, 100, 32]) = true := by unfold bne; rw [z3]; rfl
      have X1 := hX5.out (fun q => q.2.2.elim (fun r => cw (Du.bs_eq r)) (fun r => ca (Du.bs_eq r)))
      subst X1
      clear hX5 hX6 hX7
      go_wp2_with (first
        | (with_reducible refine load_has (o := ⟨some 77, _, _, _, _, _⟩) rfl 26 (.tmp 2) rfl O rfl hO.out.hG Try.underlying26 rfl (Ob.info26 _ _ _) ?_)
        | (with_reducible refine store_has (o := ⟨none, _, _, _, _, _⟩) rfl 26 (.tmp 4) (.tmp 77) rfl R #[.slice A n c, .slice B m d, .slice C 0 e] rfl rfl hR.out (Ob.info26 _ _ _) rfl (Ob.oneS _ _ _ _ _ _ _ _ _) ?_)
        | fail)
      refine bodyPost_ret (results_has2 rfl R rfl (hR.out.row _) Try.underlying26 rfl (Ob.info26 _ _ _)) rfl ?_
      exact ⟨_, _, _, A, n, c, B, m, d, C, 0, e, rfl, hO.out.hP.otherRow hR.out (by decide) _, hO.out.hQ.otherRow hR.out (by decide) _, hO.out.hY.otherRow hR.out (by decide) _, Bel.setRow hB.out hRl _, (fun _ _ _ q => by cases q), fun g cs h => (hK.out.row hOR' _ g cs h).2⟩
    · have c16 : ¬ (15 : Int) ≤ s.size := by omega
      have X1 := hX5.out (fun q => by rcases q.2.2 with r | r <;> cases r)
      subst X1
      clear hX5 hX6 hX7
      by_cases c13 : s.size = 13
      case neg =>
        have z13 : ((s.size : Int) == 13) = false := by simp; omega
        have y13 : ((s.size : Int) != 13) = true := by simp; omega
        go_wp2_with (first
          | (with_reducible refine load_has (o := ⟨some 77, _, _, _, _, _⟩) rfl 26 (.tmp 2) rfl O rfl hO.out.hG Try.underlying26 rfl (Ob.info26 _ _ _) ?_)
          | (with_reducible refine store_has (o := ⟨none, _, _, _, _, _⟩) rfl 26 (.tmp 4) (.tmp 77) rfl R #[.slice A n c, .slice B m d, .slice C k e] rfl rfl hR.out (Ob.info26 _ _ _) rfl (Ob.oneS _ _ _ _ _ _ _ _ _) ?_)
          | fail)
        refine bodyPost_ret (results_has2 rfl R rfl (hR.out.row _) Try.underlying26 rfl (Ob.info26 _ _ _)) rfl ?_
        exact ⟨_, _, _, A, n, c, B, m, d, C, k, e, rfl, hO.out.hP.otherRow hR.out (by decide) _, hO.out.hQ.otherRow hR.out (by decide) _, hO.out.hY.otherRow hR.out (by decide) _, Bel.setRow hB.out hRl _, (fun _ _ _ q => by cases q), fun g cs h => (hK.out.row hOR' _ g cs h).2⟩
      have z13 : ((s.size : Int) == 13) = true := by simp; omega
      have y13 : ((s.size : Int) != 13) = false := by simp; omega
      by_cases cY : (0 : Int) < k
      case pos =>
        go_wp2_with (first
          | (with_reducible refine load_has (o := ⟨some 77, _, _, _, _, _⟩) rfl 26 (.tmp 2) rfl O rfl hO.out.hG Try.underlying26 rfl (Ob.info26 _ _ _) ?_)
          | (with_reducible refine store_has (o := ⟨none, _, _, _, _, _⟩) rfl 26 (.tmp 4) (.tmp 77) rfl R #[.slice A n c, .slice B m d, .slice C k e] rfl rfl hR.out (Ob.info26 _ _ _) rfl (Ob.oneS _ _ _ _ _ _ _ _ _) ?_)
          | fail)
        refine bodyPost_ret (results_has2 rfl R rfl (hR.out.row _) Try.underlying26 rfl (Ob.info26 _ _ _)) rfl ?_
        exact ⟨_, _, _, A, n, c, B, m, d, C, k, e, rfl, hO.out.hP.otherRow hR.out (by decide) _, hO.out.hQ.otherRow hR.out (by decide) _, hO.out.hY.otherRow hR.out (by decide) _, Bel.setRow hB.out hRl _, (fun _ _ _ q => by cases q), fun g cs h => (hK.out.row hOR' _ g cs h).2⟩
      have hk0 : k = 0 := by omega
      subst hk0
      go_wp2_with (first
        | (with_reducible refine load_has (o := ⟨some 77, _, _, _, _, _⟩) rfl 26 (.tmp 2) rfl O rfl hO.out.hG Try.underlying26 rfl (Ob.info26 _ _ _) ?_)
        | (with_reducible refine store_has (o := ⟨none, _, _, _, _, _⟩) rfl 26 (.tmp 4) (.tmp 77) rfl R #[.slice A n c, .slice B m d, .slice C 0 e] rfl rfl hR.out (Ob.info26 _ _ _) rfl (Ob.oneS _ _ _ _ _ _ _ _ _) ?_)
        | fail)
      refine bodyPost_ret (results_has2 rfl R rfl (hR.out.row _) Try.underlying26 rfl (Ob.info26 _ _ _)) rfl ?_
      exact ⟨_, _, _, A, n, c, B, m, d, C, 0, e, rfl, hO.out.hP.otherRow hR.out (by decide) _, hO.out.hQ.otherRow hR.out (by decide) _, hO.out.hY.otherRow hR.out (by decide) _, Bel.setRow hB.out hRl _, (fun _ _ _ q => by cases q), fun g cs h => (hK.out.row hOR' _ g cs h).2⟩
end Go.Proofs.Ytpfejjkoemnmiaa
