/-
  The walk of LoadTwice.
-/
import Derived.Test.YtpfgmfiegnkocaaM17
namespace Go.Proofs.Ytpfgmfiegnkocaa
open Go.RowKit
set_option linter.unusedVariables false
set_option linter.unusedSimpArgs false
set_option maxRecDepth 100000
set_option maxHeartbeats 4000000 in
set_option maxRecDepth 100000 in
theorem walk_twice (w : World) (A B C : Option Addr) (n c m d k e : Nat) (ws bs : List Int) (ns : List ByteArray) (hW : Wo w A n c ws) (hS : By w B m d bs) (hN : St w C k e ns) (a1 : Int) (l1 : 0 ≤ a1) (u1 : a1 < 65536) :
    Calls Try.prog 6 #[.agg #[.slice A n c, .slice B m d, .slice C k e], .int .u16 a1] w fun e w' => e = .returned (.bool true) ∧ Below w.heap.size w w' := by
  have hB := ((Kept.refl w).alloc #[.slice A n c, .slice B m d, .slice C k e] 55).below
  have hO := Lib.hid (Has.new #[.slice A n c, .slice B m d, .slice C k e] 55 w)
  have CF := fun w' (hb : Below w.heap.size w w') => Ob.fit_any (hW.below hb) (hS.below hb) (hN.below hb)
  have hF := Ob.fine_fit bs ns hW.rng
  have hWl := Ob.fW_len ws bs
  rw [hW.len] at hF hWl
  generalize Ob.fW ws bs = W at *
  generalize Ob.fS (min n 40) bs = S at *
  generalize Ob.fY (min n 40) ns = Y at *
  generalize min n 40 = n1 at *
  subst hWl
  replace CF := Lib.hid CF
  have hW40 := hF.hn
  have hY8 := hF.hy
  have hS64 : S.length ≤ 65535 := by
    rcases Nat.eq_zero_or_pos S.length with q | q
    · omega
    · have h1 := hF.hR
      have h2 : ∀ j, j < S.length → (j : Int) ≤ S.getD j 0 := fun j => by
        induction j with
        | zero => intro hj; have := Ch.at_ge h1 0 hj; omega
        | succ j ih => intro hj; have := ih (by omega); have := Ch.mono h1 j (j + 1) (by omega) hj; omega
      have h3 := h2 (S.length - 1) (by omega)
      have h4 := Ch.at_ge h1 (S.length - 1) (by omega)
      omega
  replace hF := Lib.hid hF
  clear hW hS hN
  go_enter Try.func6, Try.ntmps6
  go_wp2_with (fail)
  generalize w.alloc (.cells #[.slice A n c, .slice B m d, .slice C k e] 55) = w1 at *
  refine (Lo.shown_any w1).mono ?_; rintro r w2 ⟨rfl, hE⟩
  replace hB := Lib.hid (hB.trans (hE.mono hB.size))
  replace hO := Lib.hid (hO.out.below hE)
  clear hE
  have o0 := hO.out.cell 0 (.slice A n c) rfl
  have o1 := hO.out.cell 1 (.slice B m d) rfl
  have o2 := hO.out.cell 2 (.slice C k e) rfl
  go_wp2_with (fail)
  clear o0 o1 o2
  refine (CF.out w2 hB.out).mono ?_; rintro r w3 ⟨gW, cW, gS, cS, C1, e1, rfl, hP, hQ, hY, hE⟩
  have hA3 := ((Kept.refl w3).alloc #[.slice (some ⟨gW, 0, none⟩) W.length cW, .slice (some ⟨gS, 0, none⟩) S.length cS, .slice C1 Y.length e1] 26).below
  have hX := Lib.hid (show Ob.Own w2.heap.size w3.heap.size (some ⟨gW, 0, none⟩) W.length cW (some ⟨gS, 0, none⟩) S.length cS C1 Y.length e1 W S Y (w3.alloc (.cells #[.slice (some ⟨gW, 0, none⟩) W.length cW, .slice (some ⟨gS, 0, none⟩) S.length cS, .slice C1 Y.length e1] 26)) from ⟨Has.new _ _ _, (hP.on.below hA3), (hQ.on.below hA3), hY.below hA3, hE.size⟩)
  replace hB := Lib.hid ((hB.out.trans (hE.mono hB.out.size)).trans (hA3.mono (Nat.le_trans hB.out.size hE.size)))
  replace hO := (hO.out.below hE).below hA3
  clear hP hQ hY hE hA3
  clear hO CF
  go_upto_region 3 with (fail)
  generalize w3.alloc (.cells #[.slice (some ⟨gW, 0, none⟩) W.length cW, .slice (some ⟨gS, 0, none⟩) S.length cS, .slice C1 Y.length e1] 26) = w4 at *
  generalize w3.heap.size = O at *
  have hA := ((Kept.refl w4).alloc #[] 39).below
  have hR := Lib.hid (Ow.new 39 .u32 w4 w4.heap.size (Nat.le_refl _))
  have hW4 := Lib.hid ((hX.out.below hA).wo hF.out.hr)
  have o0 := hX.out.hG.cell 0 (.slice (some ⟨gW, 0, none⟩) W.length cW) rfl
  have o0' := (hX.out.below hA).hG.cell 0 (.slice (some ⟨gW, 0, none⟩) W.length cW) rfl
  have hs4 : w4.heap.size ≤ (w4.alloc (.cells #[] 39)).heap.size := hA.size
  replace hA := Lib.hid hA
  go_upto_region 4 with (with_reducible refine append_row (o := ⟨some 25, _, _, _, _, _⟩) Try.underlying22 L.info32 (by omega) rfl (.tmp 22) (.tmp 24) rfl w4.heap.size w4.heap.size 0 0 [] rfl hR.out (some ⟨gW, 0, none⟩) W.length cW W rfl hW4.out (by omega) hs4 ?_; intro gq capq w5 hQ hG)
  clear o0 o0' hW4
  have hE := hA.out.grown hG hs4 (fun q e => by cases e; exact Nat.le_refl _)
  rw [List.nil_append, Nat.zero_add] at hQ
  try simp only [Nat.zero_add]
  replace hB := Lib.hid (hB.out.trans (hE.mono hB.out.size))
  replace hX := Lib.hid (hX.out.below hE)
  replace hQ := Lib.hid (hQ.on.rg)
  clear hA hR hE hG hs4
  have hok := hF.out.ok
  have i0 : Lo.iE W S Y 0 = 0 := Lo.ok_E hok ⟨by omega, by omega, by omega⟩
  have i1 : Lo.iW W S Y 0 = W := by rw [Lo.ok_W hok ⟨by omega, by omega, by omega⟩]; exact Lo.img_zero 0 hF.out.hr
  have CI := fun (v : World) (h1 : Ob.Own w2.heap.size O (some ⟨gW, 0, none⟩) W.length cW (some ⟨gS, 0, none⟩) S.length cS C1 Y.length e1 W S Y v) => Lo.image_any (h1.wo hF.out.hr) h1.in h1.sy hF.out.siz 0
  rw [i0, i1] at CI
  replace CI := Lib.hid CI
  clear i0 i1 hok
  go_wp2_with (first
    | (with_reducible refine load_has (o := ⟨some 27, _, _, _, _, _⟩) rfl 26 (.tmp 6) rfl O rfl hX.out.hG Try.underlying26 rfl (Ob.info26 _ _ _) ?_)
    | fail)
  refine (CI.out _ hX.out).mono ?_; rintro r w6 ⟨A6, n6, c6, rfl, hP, hE⟩
  have hn6 := hP.rg.len
  subst hn6
  have hE5 := hE
  have hQ6 := Lib.hid (hQ.out.below hE)
  replace hE := Lib.hid hE
  replace hP := Lib.hid hP
  clear CI
  go_wp2_with (fail)
  refine (Ch.same5_any hP.out.rg hQ6.out).mono ?_; rintro r w7 ⟨rfl, hE⟩
  rw [decide_eq_true rfl]
  replace hP := Lib.hid (hP.out.below hE)
  replace hE5 := Lib.hid (hE5.trans (hE.mono hE5.size))
  clear hE hQ6
  go_wp2
  go_loopw [11] (fun i wr => ∃ (j : Nat) (xs : List Int), j ≤ W.length ∧ i = .int .i64 j ∧ On 39 .u32 w5.heap.size A6 W.length c6 xs wr ∧ Below w5.heap.size w5 wr) (fun i _ => W.length - (intOf i).toNat)
  case atStart => exact ⟨0, W, Nat.zero_le _, rfl, hP.out, hE5.out⟩
  case round =>
    clear hP hE5
    obtain ⟨j, xs, hj, rfl, hP, hE⟩ := hrel
    by_cases d1 : j < W.length
    · have d2 : (j : Int) < W.length := by omega
      rcases hP.cases with ⟨rfl, h0, _⟩ | ⟨g, rfl, hO⟩
      · omega
      have hO1 : Ow 39 .u32 w5.heap.size g W.length c6 xs wr := hO
      have g1 := hO1.at j d1
      have f1 := hO1.free j
      have hP2 := Lib.hid (hO1.set j 7).on
      have hE2 := Lib.hid (hE.setCell (p := ⟨g, j, none⟩) hO1.has.1 (.int .u32 7))
      clear hP hE hO hO1
      go_wp2
      go_roundw
      case rel => exact ⟨j + 1, _, by omega, by go_num, hP2.out, hE2.out⟩
      case measure => simp [intOf]; omega
    · have d2 : ¬ (j : Int) < W.length := by omega
      obtain rfl : j = W.length := by omega
      replace hB := Lib.hid (hB.out.trans (hE.mono hB.out.size))
      replace hX := Lib.hid (hX.out.below hE)
      replace hQ := Lib.hid (hQ.out.below hE)
      clear hE hP
      have o0 := hX.out.hG.cell 0 (.slice (some ⟨gW, 0, none⟩) W.length cW) rfl
      have q1 : 0 ≤ a1 % 4097 ∧ a1 % 4097 < 4097 := by omega
      generalize hz : a1 % 4097 = z at *
      obtain ⟨q1, q2⟩ := q1
      have hb4 : Lo.base (4 * z) := ⟨by omega, by omega, by omega⟩
      have hok := hF.out.noS.noY.ok
      have i0 := Lo.ok_E (b := 4 * z) hok hb4
      have i1 : Lo.iW W [] [] (4 * z) = W := by rw [Lo.ok_W hok hb4]; exact Lo.img_nil _ _ _
      go_wp2_with (fail)
      refine (Lo.image_any (hX.out.wo hF.out.hr) (Lo.nilS wr) (Sy.empty wr) (by simp) (4 * z)).mono ?_; rintro r w8 ⟨A8, n8, c8, rfl, hP, hE⟩
      rw [i0]
      rw [i1] at hP
      replace hB := Lib.hid (hB.out.trans (hE.mono hB.out.size))
      replace hX := Lib.hid (hX.out.below hE)
      replace hQ := Lib.hid (hQ.out.below hE)
      replace hP := Lib.hid hP
      clear o0 hE i0 i1 hok
      have o0 := hX.out.hG.cell 0 (.slice (some ⟨gW, 0, none⟩) W.length cW) rfl
      go_wp2_with (fail)
      refine (Ch.same5_any (hX.out.wo hF.out.hr).rg hQ.out).mono ?_; rintro r w9 ⟨rfl, hE⟩
      rw [decide_eq_true rfl]
      replace hB := Lib.hid (hB.out.trans (hE.mono hB.out.size))
      replace hQ := Lib.hid (hQ.out.below hE)
      replace hP := Lib.hid (hP.out.below hE)
      clear o0 hE hX
      go_wp2_with (fail)
      refine (Ch.same5_any hP.out.rg hQ.out).mono ?_; rintro r w10 ⟨rfl, hE⟩
      rw [decide_eq_true rfl]
      replace hB := Lib.hid (hB.out.trans (hE.mono hB.out.size))
      clear hE hQ hP
      go_wp2
      go_ret
      exact ⟨rfl, hB.out⟩
end Go.Proofs.Ytpfgmfiegnkocaa
