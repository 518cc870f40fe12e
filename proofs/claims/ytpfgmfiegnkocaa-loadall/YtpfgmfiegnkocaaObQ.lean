/-
  What follows, plainly, of an object that Fit made: it may be; spoilt, it may not; unlike objects; a part of it.
-/
import Derived.Test.YtpfgmfiegnkocaaOb9
namespace Go.Proofs.Ytpfgmfiegnkocaa
open Go.RowKit
set_option linter.unusedVariables false
set_option linter.unusedSimpArgs false
set_option maxRecDepth 100000
def Ob.zz : ByteArray := ⟨#[122, 122, 95]⟩
theorem Ob.bl_zz : ∀ l : List UInt8, (∃ x xs, l.map (fun b => (b.toNat : Int)) = x :: xs ∧ x ≤ 122 ∧ ∀ y ∈ xs, y < 122) → Op.bytesLess l [122, 122, 95] = true
  | [], ⟨x, xs, e, _⟩ => by simp at e
  | a :: r, ⟨x, xs, e, h1, h2⟩ => by
    simp only [List.map_cons, List.cons.injEq] at e
    obtain ⟨rfl, rfl⟩ := e
    simp only [Op.bytesLess, Bool.or_eq_true, decide_eq_true_eq, Bool.and_eq_true, beq_iff_eq]
    by_cases c : a = 122
    · subst c
      refine Or.inr ⟨rfl, ?_⟩
      cases r with
      | nil => rfl
      | cons b r =>
        have := h2 (b.toNat : Int) (by simp)
        simp only [Op.bytesLess, Bool.or_eq_true, decide_eq_true_eq]
        refine Or.inl ?_
        rw [UInt8.lt_iff_toNat_lt]
        show b.toNat < 122
        omega
    · refine Or.inl ?_
      rw [UInt8.lt_iff_toNat_lt]
      show a.toNat < 122
      have : a.toNat ≠ 122 := fun q => c (UInt8.toNat_inj.1 q)
      omega
theorem L.fitS_zz (s : ByteArray) : Ob.bl (L.fitS s) Ob.zz = true := by
  unfold Ob.bl
  rw [Lib.toList_data, Lib.toList_data]
  exact Ob.bl_zz _ (L.fitK_low s _)
/-- an object that Fit made -/
structure Ob.Fine (W S : List Int) (Y : List Ob.Y) : Prop where
  hn : W.length ≤ 40
  hy : Y.length ≤ 8
  hr : ∀ x ∈ W, 0 ≤ x ∧ x < 4294967296
  hR : Ch.Rises W.length S
  hL : Ob.Low W S
  hN : Ob.Rise Y
  hP : ∀ y ∈ Y, 0 ≤ y.2 ∧ y.2 ≤ 4 * (W.length : Int) ∧ y.2 % 4 = 0
  hS : ∀ y ∈ Y, y.1.size ≤ 7
  hZ : ∀ y ∈ Y, Ob.bl y.1 Ob.zz = true
theorem Ob.fW_len (ws bs : List Int) : (Ob.fW ws bs).length = min ws.length 40 := by
  unfold Ob.fW
  rw [Ob.fw_len, List.length_take]
  omega
theorem Ob.fine_fit {ws : List Int} (bs : List Int) (ns : List ByteArray) (hw : ∀ x ∈ ws, 0 ≤ x ∧ x < 4294967296) : Ob.Fine (Ob.fW ws bs) (Ob.fS (min ws.length 40) bs) (Ob.fY (min ws.length 40) ns) := by
  have hl := Ob.fW_len ws bs
  have ht : (ws.take (min ws.length 40)).length = min ws.length 40 := by rw [List.length_take]; omega
  refine ⟨by omega, ?_, ?_, ?_, ?_, ?_, ?_, ?_, ?_⟩
  · have := Ob.fy_len L.fitS (min ws.length 40) ns (min ns.length 8)
    unfold Ob.fY
    omega
  · exact Ob.fw_rng _ (fun x hx => hw x (List.mem_of_mem_take hx)) (by omega) _
  · rw [hl]; exact fit_rises' bs _ _ (by omega)
  · intro k hk
    unfold Ob.LowAt Ch.val
    have := Ob.fw_low (ws.take (min ws.length 40)) (Ob.fS (min ws.length 40) bs) (Ob.fS (min ws.length 40) bs).length k hk hk
    rw [ht] at this
    rw [hl]
    exact this
  · exact Ob.fy_rise L.fitS_good _ _ _
  · rw [hl]; exact Ob.fy_place _
  · exact Ob.fy_mem (Q := fun y => y.1.size ≤ 7) (fun k => L.fitS_size _) _
  · exact Ob.fy_mem (Q := fun y => Ob.bl y.1 Ob.zz = true) (fun k => L.fitS_zz _) _
section
variable {W S : List Int} {Y : List Ob.Y}
theorem Ob.Fine.big (h : Ob.Fine W S Y) : ¬ (1024 < W.length ∨ 64 < Y.length) := by have := h.hn; have := h.hy; omega
theorem Ob.Fine.names (h : Ob.Fine W S Y) : Ob.Names Y := (Ob.names_iff Y).2 h.hN
theorem Ob.Fine.places (h : Ob.Fine W S Y) : Ob.Places (4 * (W.length : Int)) Y := (Ob.places_iff _ Y).2 h.hP
theorem Ob.Fine.ok (h : Ob.Fine W S Y) : Ob.may W S Y = 0 := Ob.may_0 h.big h.hR h.hL h.names h.places
theorem Ob.Fine.siz (h : Ob.Fine W S Y) : ∀ y ∈ Y, y.1.size ≤ 1000000 := fun y hy => by have := h.hS y hy; omega
theorem Ob.rise_nil : Ob.Rise [] := ⟨by simp, List.Pairwise.nil⟩
theorem Ob.Fine.noS (h : Ob.Fine W S Y) : Ob.Fine W [] Y := ⟨h.hn, h.hy, h.hr, fun k hk => by simp at hk, fun k hk => by simp at hk, h.hN, h.hP, h.hS, h.hZ⟩
theorem Ob.Fine.noY (h : Ob.Fine W S Y) : Ob.Fine W S [] := ⟨h.hn, by simp, h.hr, h.hR, h.hL, Ob.rise_nil, by simp, by simp, by simp⟩
/-! spoilt -/
theorem Ob.Fine.s0 (h : Ob.Fine W S Y) : Ob.may W (S ++ [(W.length : Int)]) Y = 7 := by
  refine Ob.may_7 h.big fun hR => ?_
  have := (hR S.length (by simp)).2.1
  rw [Ch.getD_last] at this
  omega
theorem Ob.Fine.s1 (h : Ob.Fine W S Y) (i : Nat) (hi : i < S.length) (q : Nat) (hq : S.getD i 0 = (q : Int)) : Ob.may (W.set q (4 * (W.length : Int) + 1)) S Y = 8 ∧ W ≠ W.set q (4 * (W.length : Int) + 1) := by
  have h1 := Ch.at_ge h.hR i hi
  have hqn : q < W.length := by omega
  have hg : (W.set q (4 * (W.length : Int) + 1)).getD q 0 = 4 * (W.length : Int) + 1 := by rw [Ch.getD_set, if_pos ⟨rfl, hqn⟩]
  constructor
  · refine Ob.may_8 (by rw [List.length_set]; exact h.big) (by rw [List.length_set]; exact h.hR) fun hL => ?_
    have := hL i hi
    unfold Ob.LowAt Ch.val at this
    rw [hq, Int.toNat_natCast, hg, List.length_set] at this
    omega
  · intro e
    have := h.hL i hi
    unfold Ob.LowAt Ch.val at this
    rw [hq, Int.toNat_natCast] at this
    rw [← e] at hg
    omega
theorem Ob.Fine.s2 (h : Ob.Fine W S Y) (hi : 0 < S.length) : Ob.may W (S.getD 0 0 :: S) Y = 7 := by
  refine Ob.may_7 h.big fun hR => ?_
  have := (hR 1 (by simp; omega)).1
  have e1 : Ch.prev (S.getD 0 0 :: S) 1 = S.getD 0 0 := rfl
  have e2 : (S.getD 0 0 :: S).getD 1 0 = S.getD 0 0 := rfl
  rw [e1, e2] at this
  omega
theorem Ob.Fine.s3 (h : Ob.Fine W S Y) (hi : 0 < Y.length) : Ob.may W S (Y ++ [(Ob.nm Y (Y.length - 1), Ob.pl Y (Y.length - 1))]) = 9 := by
  have hl := h.hy
  have hn := h.hn
  refine Ob.may_9 (by simp; omega) h.hR h.hL fun hN => ?_
  have := ((Ob.names_iff _).1 hN).2
  rw [List.pairwise_append] at this
  have := this.2.2 (Y[Y.length - 1]) (List.getElem_mem _) (Ob.nm Y (Y.length - 1), Ob.pl Y (Y.length - 1)) (by simp)
  rw [Ob.nm_get (by omega)] at this
  rw [Ob.lt_irr] at this
  cases this
theorem Ob.zz_good : Ob.Good Ob.zz := by unfold Ob.Good; decide +kernel
theorem Ob.Fine.s4 (h : Ob.Fine W S Y) : Ob.may W S (Y ++ [(Ob.zz, 4 * (W.length : Int) + 4)]) = 8 := by
  have hl := h.hy
  have hn := h.hn
  refine Ob.may_88 (by simp; omega) h.hR h.hL ((Ob.names_iff _).2 ⟨fun y hy => ?_, ?_⟩) fun hP => ?_
  · rcases List.mem_append.1 hy with q | q
    · exact h.hN.1 y q
    · simp only [List.mem_cons, List.not_mem_nil, or_false] at q
      rw [q]; exact Ob.zz_good
  · rw [List.pairwise_append]
    refine ⟨h.hN.2, List.pairwise_singleton _ _, fun x hx y hy => ?_⟩
    simp only [List.mem_cons, List.not_mem_nil, or_false] at hy
    rw [hy]; exact h.hZ x hx
  · have := (Ob.places_iff _ _).1 hP (Ob.zz, 4 * (W.length : Int) + 4) (by simp)
    have := this.2.1
    simp only at this
    omega
theorem Ob.nm_set {k j : Nat} {a : Int} : Ob.nm (Y.set k (Ob.nm Y k, a)) j = Ob.nm Y j := by
  have e : ∀ (Z : List Ob.Y) (i : Nat), Ob.nm Z i = (Z[i]?.getD (Ob.e0, 0)).1 := fun Z i => by unfold Ob.nm; rw [List.getD_eq_getElem?_getD]
  rw [e (Y.set k _) j, e Y j, List.getElem?_set]
  by_cases c : k = j
  · subst c
    rw [if_pos rfl]
    by_cases d : k < Y.length
    · rw [if_pos d, e Y k]; rfl
    · rw [if_neg d, List.getElem?_eq_none (by omega)]
  · rw [if_neg c]
theorem Ob.names_set (h : Ob.Names Y) (k : Nat) (a : Int) : Ob.Names (Y.set k (Ob.nm Y k, a)) := fun j hj => by
  rw [List.length_set] at hj
  have := h j hj
  unfold Ob.OkN at this ⊢
  rw [Ob.nm_set]
  cases j with
  | zero => exact this
  | succ j => show _ ∧ Ob.bl (Ob.nm (Y.set k (Ob.nm Y k, a)) j) _ = true; rw [Ob.nm_set]; exact this
theorem Ob.pl_set {k : Nat} {s : ByteArray} {a : Int} (hk : k < Y.length) : Ob.pl (Y.set k (s, a)) k = a := by
  unfold Ob.pl
  rw [List.getD_eq_getElem?_getD, List.getElem?_set_self (by simpa using hk)]; rfl
theorem Ob.nm_set' {k : Nat} {s : ByteArray} {a : Int} (hk : k < Y.length) : Ob.nm (Y.set k (s, a)) k = s := by
  unfold Ob.nm
  rw [List.getD_eq_getElem?_getD, List.getElem?_set_self (by simpa using hk)]; rfl
theorem Ob.Fine.s5 (h : Ob.Fine W S Y) (k : Nat) (hk : k < Y.length) : Ob.may W S (Y.set k (Ob.nm Y k, 2)) = 8 ∧ Y ≠ Y.set k (Ob.nm Y k, 2) := by
  constructor
  · refine Ob.may_88 (by rw [List.length_set]; exact h.big) h.hR h.hL (Ob.names_set h.names k 2) fun hP => ?_
    have := hP k (by rw [List.length_set]; exact hk)
    unfold Ob.OkP at this
    rw [Ob.pl_set hk] at this
    omega
  · intro e
    have h1 := h.places k hk
    unfold Ob.OkP at h1
    rw [e, Ob.pl_set hk] at h1
    omega
theorem Ob.Fine.s6 (m : Nat) (hm : 1024 < W.length + m) : Ob.may (W ++ List.replicate m 0) S Y = 2 := Ob.may_2 (Or.inl (by simp; omega))
theorem Ob.ne_longer {α : Type} {l m : List α} (h : l.length ≠ m.length) : l ≠ m := fun e => h (by rw [e])
theorem Ob.zero_ne {e : Int} (h : e ≠ 0) : (e == 0) = false := by rw [beq_eq_false_iff_ne]; exact h
/-! unlike -/
theorem Ob.u0 (hr : ∀ x ∈ W, 0 ≤ x ∧ x < 4294967296) (k : Nat) (hk : k < W.length) : W ≠ W.set k ((W.getD k 0 + 1) % 4294967296) := by
  intro e
  have h1 : (W.set k ((W.getD k 0 + 1) % 4294967296)).getD k 0 = (W.getD k 0 + 1) % 4294967296 := by rw [Ch.getD_set, if_pos ⟨rfl, hk⟩]
  rw [← e] at h1
  have h2 : 0 ≤ W.getD k 0 ∧ W.getD k 0 < 4294967296 := by
    rw [List.getD_eq_getElem?_getD, List.getElem?_eq_getElem hk]
    exact hr _ (List.getElem_mem hk)
  omega
theorem Ob.u2 (k : Nat) (hk : k < Y.length) : Y ≠ Y.set k (Ob.nm Y k ++ ⟨#[95]⟩, Ob.pl Y k) := by
  intro e
  have h1 := Ob.nm_set' (Y := Y) (k := k) (s := Ob.nm Y k ++ ⟨#[95]⟩) (a := Ob.pl Y k) hk
  rw [← e] at h1
  have h2 := congrArg ByteArray.size h1
  rw [ByteArray.size_append] at h2
  have : (⟨#[95]⟩ : ByteArray).size = 1 := rfl
  omega
theorem Ob.u3 (k : Nat) (hk : k < Y.length) : Y ≠ Y.set k (Ob.nm Y k, Ob.pl Y k + 4) := by
  intro e
  have h1 := Ob.pl_set (Y := Y) (k := k) (s := Ob.nm Y k) (a := Ob.pl Y k + 4) hk
  rw [← e] at h1
  omega
/-! a part -/
/-- the sites below n, and whether what they say is within -/
def Ob.below (n : Nat) (S : List Int) (i : Nat) : List Int := (S.take i).filter (fun s => decide (s < (n : Int)))
def Ob.fitsTo (n : Nat) (W S : List Int) (i : Nat) : Bool := (Ob.below n S i).all fun s => decide (W.getD s.toNat 0 ≤ 4 * (n : Int))
def Ob.upto (n : Nat) (Y : List Ob.Y) (i : Nat) : List Ob.Y := (Y.take i).filter (fun y => decide (y.2 ≤ 4 * (n : Int)))
theorem Ob.below_yes {n i : Nat} (hi : i < S.length) (h : S.getD i 0 < (n : Int)) : Ob.below n S (i + 1) = Ob.below n S i ++ [S.getD i 0] := by
  unfold Ob.below
  rw [List.take_add_one, List.filter_append]
  rw [List.getD_eq_getElem?_getD, List.getElem?_eq_getElem hi] at h ⊢
  simp only [Option.getD_some] at h
  simp [h]
theorem Ob.below_no {n i : Nat} (hi : i < S.length) (h : ¬ S.getD i 0 < (n : Int)) : Ob.below n S (i + 1) = Ob.below n S i := by
  unfold Ob.below
  rw [List.take_add_one, List.filter_append]
  rw [List.getD_eq_getElem?_getD, List.getElem?_eq_getElem hi] at h
  simp only [Option.getD_some] at h
  rw [List.getElem?_eq_getElem hi]
  simp only [Option.toList_some, List.filter_cons, List.filter_nil, decide_eq_false h]
  simp
theorem Ob.fits_yes {n i : Nat} (hi : i < S.length) (h : S.getD i 0 < (n : Int)) : Ob.fitsTo n W S (i + 1) = (Ob.fitsTo n W S i && decide (W.getD (S.getD i 0).toNat 0 ≤ 4 * (n : Int))) := by
  unfold Ob.fitsTo
  rw [Ob.below_yes hi h, List.all_append]
  simp
theorem Ob.fits_no {n i : Nat} (hi : i < S.length) (h : ¬ S.getD i 0 < (n : Int)) : Ob.fitsTo n W S (i + 1) = Ob.fitsTo n W S i := by
  unfold Ob.fitsTo
  rw [Ob.below_no hi h]
theorem Ob.upto_yes {n i : Nat} (hi : i < Y.length) (h : Ob.pl Y i ≤ 4 * (n : Int)) : Ob.upto n Y (i + 1) = Ob.upto n Y i ++ [(Ob.nm Y i, Ob.pl Y i)] := by
  unfold Ob.upto
  rw [List.take_add_one, List.filter_append, Ob.at_get hi]
  simp [h]
theorem Ob.upto_no {n i : Nat} (hi : i < Y.length) (h : ¬ Ob.pl Y i ≤ 4 * (n : Int)) : Ob.upto n Y (i + 1) = Ob.upto n Y i := by
  unfold Ob.upto
  rw [List.take_add_one, List.filter_append, Ob.at_get hi]
  simp only [Option.toList_some, List.filter_cons, List.filter_nil, decide_eq_false h]
  simp
theorem Ob.below_len (n : Nat) (S : List Int) (i : Nat) : (Ob.below n S i).length ≤ i := by
  unfold Ob.below
  have := List.length_filter_le (fun s => decide (s < (n : Int))) (S.take i)
  rw [List.length_take] at this
  omega
theorem Ob.upto_len (n : Nat) (Y : List Ob.Y) (i : Nat) : (Ob.upto n Y i).length ≤ i := by
  unfold Ob.upto
  have := List.length_filter_le (fun y : Ob.Y => decide (y.2 ≤ 4 * (n : Int))) (Y.take i)
  rw [List.length_take] at this
  omega
theorem Ob.Fine.part (h : Ob.Fine W S Y) (n : Nat) (hn : n ≤ W.length) : Ob.may (W.take n) (Ob.below n S S.length) (Ob.upto n Y Y.length) = if Ob.fitsTo n W S S.length = true then 0 else 8 := by
  have hl : (W.take n).length = n := by rw [List.length_take]; omega
  have hsub : (Ob.below n S S.length).Sublist S := by unfold Ob.below; rw [List.take_length]; exact List.filter_sublist
  have hlt : ∀ s ∈ Ob.below n S S.length, s < (n : Int) := fun s hs => by
    unfold Ob.below at hs
    have := (List.mem_filter.1 hs).2
    exact of_decide_eq_true this
  have hysub : (Ob.upto n Y Y.length).Sublist Y := by unfold Ob.upto; rw [List.take_length]; exact List.filter_sublist
  have hR0 := (Ob.rises_iff _ _).1 h.hR
  have hR : Ch.Rises n (Ob.below n S S.length) := (Ob.rises_iff _ _).2 ⟨fun s hs => ⟨(hR0.1 s (hsub.subset hs)).1, hlt s hs, (hR0.1 s (hsub.subset hs)).2.2⟩, hR0.2.sublist hsub⟩
  have hbig : ¬ (1024 < (W.take n).length ∨ 64 < (Ob.upto n Y Y.length).length) := by
    have := h.hn
    have := h.hy
    have := hysub.length_le
    omega
  have hget : ∀ s ∈ Ob.below n S S.length, (W.take n).getD s.toNat 0 = W.getD s.toNat 0 := fun s hs => by
    have h1 := (hR0.1 s (hsub.subset hs)).1
    have h2 := hlt s hs
    rw [List.getD_eq_getElem?_getD, List.getElem?_take, if_pos (by omega), List.getD_eq_getElem?_getD]
  split
  · rename_i hf
    refine Ob.may_0 hbig (by rw [hl]; exact hR) ((Ob.low_iff _ _).2 fun s hs => ?_) ((Ob.names_iff _).2 ⟨fun y hy => h.hN.1 y (hysub.subset hy), h.hN.2.sublist hysub⟩) ((Ob.places_iff _ _).2 fun y hy => ?_)
    · rw [hget s hs, hl]
      unfold Ob.fitsTo at hf
      exact of_decide_eq_true (List.all_eq_true.1 hf s hs)
    · have h1 := h.hP y (hysub.subset hy)
      refine ⟨h1.1, ?_, h1.2.2⟩
      unfold Ob.upto at hy
      have := (List.mem_filter.1 hy).2
      rw [hl]
      exact of_decide_eq_true this
  · rename_i hf
    refine Ob.may_8 hbig (by rw [hl]; exact hR) fun hL => hf ?_
    unfold Ob.fitsTo
    refine List.all_eq_true.2 fun s hs => decide_eq_true ?_
    have := (Ob.low_iff _ _).1 hL s hs
    rwa [hget s hs, hl] at this
end
/-- the document's examples -/
theorem Ob.ex1 : Ob.may [4] [0] [] = 0 := by decide +kernel
theorem Ob.ex2 : Ob.may [8] [0] [] = 8 := by decide +kernel
theorem Ob.ex3 : Ob.same [] [] [] [] [] [] = true := by decide +kernel
end Go.Proofs.Ytpfgmfiegnkocaa
