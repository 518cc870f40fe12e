/-
  The walk of NameBack.
-/
import Derived.Test.YtkkoihhkfophnaaDoorNaB
import Derived.Test.YtkkoihhkfophnaaDoorNaS
namespace Go.Proofs.YtkkoihhkfophnaaDoor
open Go.RowKit
set_option linter.unusedVariables false
set_option linter.unusedSimpArgs false
set_option maxRecDepth 100000
/-- the three arrays that came in, boxed -/
structure Na.Three (B1 B2 B3 : Nat) (x0 x1 y0 y1 : Int) (u0 u1 : Bool) (w : World) : Prop where
  one : Has B1 #[.int .u8 x0, .int .u8 x1] 32 w
  two : Has B2 #[.int .u8 y0, .int .u8 y1] 32 w
  three : Has B3 #[.bool u0, .bool u1] 33 w
theorem Na.Three.below {B1 B2 B3 : Nat} {x0 x1 y0 y1 : Int} {u0 u1 : Bool} {w w' : World} (h : Na.Three B1 B2 B3 x0 x1 y0 y1 u0 u1 w) (hb : Below w.heap.size w w') : Na.Three B1 B2 B3 x0 x1 y0 y1 u0 u1 w' :=
  ⟨(hb.block _ h.one.lt).trans h.one, (hb.block _ h.two.lt).trans h.two, (hb.block _ h.three.lt).trans h.three⟩
theorem Na.Three.cells {B1 B2 B3 : Nat} {x0 x1 y0 y1 : Int} {u0 u1 : Bool} {w : World} (h : Na.Three B1 B2 B3 x0 x1 y0 y1 u0 u1 w) :
    w.cell? ⟨B1, 0, none⟩ = some (.int .u8 x0) ∧ w.cell? ⟨B1, 1, none⟩ = some (.int .u8 x1) ∧ w.cell? ⟨B2, 0, none⟩ = some (.int .u8 y0) ∧ w.cell? ⟨B2, 1, none⟩ = some (.int .u8 y1) ∧ w.cell? ⟨B3, 0, none⟩ = some (.bool u0) ∧ w.cell? ⟨B3, 1, none⟩ = some (.bool u1) :=
  ⟨h.one.cell 0 _ rfl, h.one.cell 1 _ rfl, h.two.cell 0 _ rfl, h.two.cell 1 _ rfl, h.three.cell 0 _ rfl, h.three.cell 1 _ rfl⟩
def Na.w3 (x0 x1 y0 y1 : Int) (u0 u1 : Bool) (w : World) : World := ((w.alloc (.cells #[.int .u8 x0, .int .u8 x1] 32)).alloc (.cells #[.int .u8 y0, .int .u8 y1] 32)).alloc (.cells #[.bool u0, .bool u1] 33)
theorem Na.w3_below (x0 x1 y0 y1 : Int) (u0 u1 : Bool) (w : World) : Below w.heap.size w (Na.w3 x0 x1 y0 y1 u0 u1 w) := ((((Kept.refl w).alloc _ _).alloc _ _).alloc _ _).below
theorem Na.w3_three (x0 x1 y0 y1 : Int) (u0 u1 : Bool) (w : World) : Na.Three w.heap.size (w.heap.size + 1) (w.heap.size + 1 + 1) x0 x1 y0 y1 u0 u1 (Na.w3 x0 x1 y0 y1 u0 u1 w) := by
  have h1 := Has.new #[.int .u8 x0, .int .u8 x1] 32 w
  have h2 := Has.new #[.int .u8 y0, .int .u8 y1] 32 (w.alloc (.cells #[.int .u8 x0, .int .u8 x1] 32))
  have h3 := Has.new #[.bool u0, .bool u1] 33 ((w.alloc (.cells #[.int .u8 x0, .int .u8 x1] 32)).alloc (.cells #[.int .u8 y0, .int .u8 y1] 32))
  have s1 : (w.alloc (.cells #[.int .u8 x0, .int .u8 x1] 32)).heap.size = w.heap.size + 1 := by simp
  have s2 : ((w.alloc (.cells #[.int .u8 x0, .int .u8 x1] 32)).alloc (.cells #[.int .u8 y0, .int .u8 y1] 32)).heap.size = w.heap.size + 1 + 1 := by simp
  rw [s1] at h2
  rw [s2] at h3
  exact ⟨(h1.alloc _).alloc _, h2.alloc _, h3⟩
set_option maxHeartbeats 8000000 in
set_option maxRecDepth 100000 in
theorem walk_back_at (w : World) (x0 x1 y0 y1 k p k2 p2 a b r p' : Int) (u0 u1 cc ok is : Bool) (M N S S2 : ByteArray) (b0 : 0 ≤ x0 ∧ x0 < 256) (b1 : 0 ≤ x1 ∧ x1 < 256) (b2 : 0 ≤ y0 ∧ y0 < 256) (b3 : 0 ≤ y1 ∧ y1 < 256)
    (hk : x0 % 12 = k) (hp : x1 % 17 = p) (hk2 : y0 % 12 = k2) (hp2 : y1 % 17 = p2) (p0 : 0 ≤ p) (p16 : p ≤ 16) (hp3 : p % 16 = p')
    (SH : Hid (Calls Tryd.prog 8 #[] (Na.w3 x0 x1 y0 y1 u0 u1 w) fun e w' => e = .returned (.bool true) ∧ Below (Na.w3 x0 x1 y0 y1 u0 u1 w).heap.size (Na.w3 x0 x1 y0 y1 u0 u1 w) w'))
    (CM : Hid (∀ w2, Below w.heap.size w w2 → Calls Tryd.prog 16 #[.int .i64 k, .int .i64 p, .bool u0] w2 fun e w' => e = .returned (.string M) ∧ Below w2.heap.size w2 w'))
    (CN : Hid (∀ w2, Below w.heap.size w w2 → Calls Tryd.prog 16 #[.int .i64 k2, .int .i64 p2, .bool u1] w2 fun e w' => e = .returned (.string N) ∧ Below w2.heap.size w2 w'))
    (CO : Hid (∀ w2, Below w.heap.size w w2 → Calls Tryd.prog 12 #[.string M] w2 fun e w' => e = .returned (.tuple #[.int .i64 a, .int .i64 b, .bool cc, .bool ok]) ∧ Below w2.heap.size w2 w'))
    (RN : Hid (∀ w, Calls Tryd.prog 18 #[.int .i64 p] w fun e w' => e = .returned (.string S) ∧ w = w'))
    (RE : Hid (∀ w, Calls Tryd.prog 10 #[.string S] w fun e w' => e = .returned (.tuple #[.int .i64 r, .bool is]) ∧ w = w'))
    (RN2 : Hid (∀ w, Calls Tryd.prog 18 #[.int .i64 p'] w fun e w' => e = .returned (.string S2) ∧ w = w'))
    (LA : Hid (∀ w, Calls Tryd.prog 14 #[.string S2] w fun e w' => e = .returned (.bool false) ∧ w = w'))
    (hM : Hid ((M = ⟨#[]⟩ ∧ a = 0 ∧ b = 0 ∧ cc = false ∧ ok = false) ∨
      ((M.toList == []) = false ∧ M.toList.isEmpty = false ∧ k = a ∧ p = b ∧ u0 = cc ∧ ok = true ∧ ((p < 16 ∧ is = true ∧ p = r) ∨ (p = 16 ∧ is = false ∧ r = 0)) ∧
        ((k = k2 ∧ p = p2 ∧ u0 = u1 ∧ M = N) ∨ ((M.toList == N.toList) = false ∧ (¬ k = k2 ∨ (k = k2 ∧ ¬ p = p2) ∨ (k = k2 ∧ p = p2 ∧ ¬ u0 = u1))))))) :
    Calls Tryd.prog 4 #[.agg #[.int .u8 x0, .int .u8 x1], .agg #[.int .u8 y0, .int .u8 y1], .agg #[.bool u0, .bool u1]] w fun e w' => e = .returned (.bool true) ∧ Below w.heap.size w w' := by
  have H := Lib.hid (Na.w3_three x0 x1 y0 y1 u0 u1 w)
  have hB := Lib.hid (Na.w3_below x0 x1 y0 y1 u0 u1 w)
  go_enter Tryd.func4, Tryd.ntmps4
  go_upto_region 1 with (fail)
  change Code.wp _ _ _ _ (Na.w3 x0 x1 y0 y1 u0 u1 w)
  generalize Na.w3 x0 x1 y0 y1 u0 u1 w = W3 at *
  go_wp2_with (fail)
  refine SH.out.mono ?_; rintro e w1 ⟨rfl, hB1⟩
  replace H := Lib.hid (H.out.below hB1)
  replace hB := Lib.hid (Bel.trans hB.out hB1)
  clear SH hB1
  obtain ⟨j0, j1, j2, j3, j4, j5⟩ := H.out.cells
  go_wp2_with (fail)
  refine (CM.out _ hB.out).mono ?_; rintro e w2 ⟨rfl, hB1⟩
  clear j0 j1 j2 j3 j4 j5 CM
  replace H := Lib.hid (H.out.below hB1)
  replace hB := Lib.hid (Bel.trans hB.out hB1)
  clear hB1
  obtain ⟨j0, j1, j2, j3, j4, j5⟩ := H.out.cells
  go_wp2_with (fail)
  refine (CN.out _ hB.out).mono ?_; rintro e w3 ⟨rfl, hB1⟩
  clear j0 j1 j2 j3 j4 j5 CN
  replace H := Lib.hid (H.out.below hB1)
  replace hB := Lib.hid (Bel.trans hB.out hB1)
  clear hB1
  go_wp2_with (fail)
  refine (CO.out _ hB.out).mono ?_; rintro e w4 ⟨rfl, hB1⟩
  replace H := Lib.hid (H.out.below hB1)
  replace hB := Lib.hid (Bel.trans hB.out hB1)
  clear hB1 CO
  obtain ⟨j0, j1, j2, j3, j4, j5⟩ := H.out.cells
  clear H
  rcases hM.out with ⟨rfl, rfl, rfl, rfl, rfl⟩ | ⟨m1, m2, rfl, rfl, rfl, rfl, hR, hE⟩
  · clear hM
    go_wp2
    go_ret
    exact ⟨rfl, hB.out⟩
  · clear hM
    rcases hR with ⟨h16, rfl, rfl⟩ | ⟨rfl, rfl, rfl⟩
    · rcases hE with ⟨rfl, rfl, rfl, rfl⟩ | ⟨hne, g⟩
      · have e1 : (M.toList == M.toList) = true := by simp
        go_wp2_with (fail)
        refine (RN.out _).mono ?_; rintro e w5 ⟨rfl, rfl⟩
        clear RN
        go_wp2_with (fail)
        refine (RE.out _).mono ?_; rintro e w5 ⟨rfl, rfl⟩
        clear RE
        go_wp2_with (fail)
        refine (RN2.out _).mono ?_; rintro e w5 ⟨rfl, rfl⟩
        go_wp2_with (fail)
        refine (LA.out _).mono ?_; rintro e w5 ⟨rfl, rfl⟩
        go_wp2
        go_ret
        exact ⟨rfl, hB.out⟩
      · rcases g with g | ⟨rfl, g⟩ | ⟨rfl, rfl, g⟩
        · have g2 : (k == k2) = false := by simpa using g
          go_wp2_with (fail)
          refine (RN.out _).mono ?_; rintro e w5 ⟨rfl, rfl⟩
          clear RN
          go_wp2_with (fail)
          refine (RE.out _).mono ?_; rintro e w5 ⟨rfl, rfl⟩
          clear RE
          go_wp2_with (fail)
          refine (RN2.out _).mono ?_; rintro e w5 ⟨rfl, rfl⟩
          go_wp2_with (fail)
          refine (LA.out _).mono ?_; rintro e w5 ⟨rfl, rfl⟩
          go_wp2
          go_ret
          exact ⟨rfl, hB.out⟩
        · have g2 : (p == p2) = false := by simpa using g
          go_wp2_with (fail)
          refine (RN.out _).mono ?_; rintro e w5 ⟨rfl, rfl⟩
          clear RN
          go_wp2_with (fail)
          refine (RE.out _).mono ?_; rintro e w5 ⟨rfl, rfl⟩
          clear RE
          go_wp2_with (fail)
          refine (RN2.out _).mono ?_; rintro e w5 ⟨rfl, rfl⟩
          go_wp2_with (fail)
          refine (LA.out _).mono ?_; rintro e w5 ⟨rfl, rfl⟩
          go_wp2
          go_ret
          exact ⟨rfl, hB.out⟩
        · have g2 : (u0 == u1) = false := by simpa using g
          go_wp2_with (fail)
          refine (RN.out _).mono ?_; rintro e w5 ⟨rfl, rfl⟩
          clear RN
          go_wp2_with (fail)
          refine (RE.out _).mono ?_; rintro e w5 ⟨rfl, rfl⟩
          clear RE
          go_wp2_with (fail)
          refine (RN2.out _).mono ?_; rintro e w5 ⟨rfl, rfl⟩
          go_wp2_with (fail)
          refine (LA.out _).mono ?_; rintro e w5 ⟨rfl, rfl⟩
          go_wp2
          go_ret
          exact ⟨rfl, hB.out⟩
    · obtain rfl : p' = 0 := by omega
      rcases hE with ⟨rfl, rfl, rfl, rfl⟩ | ⟨hne, g⟩
      · have e1 : (M.toList == M.toList) = true := by simp
        go_wp2_with (fail)
        refine (RN.out _).mono ?_; rintro e w5 ⟨rfl, rfl⟩
        clear RN
        go_wp2_with (fail)
        refine (RE.out _).mono ?_; rintro e w5 ⟨rfl, rfl⟩
        clear RE
        go_wp2_with (fail)
        refine (RN2.out _).mono ?_; rintro e w5 ⟨rfl, rfl⟩
        go_wp2_with (fail)
        refine (LA.out _).mono ?_; rintro e w5 ⟨rfl, rfl⟩
        go_wp2
        go_ret
        exact ⟨rfl, hB.out⟩
      · rcases g with g | ⟨rfl, g⟩ | ⟨rfl, rfl, g⟩
        · have g2 : (k == k2) = false := by simpa using g
          go_wp2_with (fail)
          refine (RN.out _).mono ?_; rintro e w5 ⟨rfl, rfl⟩
          clear RN
          go_wp2_with (fail)
          refine (RE.out _).mono ?_; rintro e w5 ⟨rfl, rfl⟩
          clear RE
          go_wp2_with (fail)
          refine (RN2.out _).mono ?_; rintro e w5 ⟨rfl, rfl⟩
          go_wp2_with (fail)
          refine (LA.out _).mono ?_; rintro e w5 ⟨rfl, rfl⟩
          go_wp2
          go_ret
          exact ⟨rfl, hB.out⟩
        · have g2 : ((16 : Int) == p2) = false := by simpa using g
          go_wp2_with (fail)
          refine (RN.out _).mono ?_; rintro e w5 ⟨rfl, rfl⟩
          clear RN
          go_wp2_with (fail)
          refine (RE.out _).mono ?_; rintro e w5 ⟨rfl, rfl⟩
          clear RE
          go_wp2_with (fail)
          refine (RN2.out _).mono ?_; rintro e w5 ⟨rfl, rfl⟩
          go_wp2_with (fail)
          refine (LA.out _).mono ?_; rintro e w5 ⟨rfl, rfl⟩
          go_wp2
          go_ret
          exact ⟨rfl, hB.out⟩
        · have g2 : (u0 == u1) = false := by simpa using g
          go_wp2_with (fail)
          refine (RN.out _).mono ?_; rintro e w5 ⟨rfl, rfl⟩
          clear RN
          go_wp2_with (fail)
          refine (RE.out _).mono ?_; rintro e w5 ⟨rfl, rfl⟩
          clear RE
          go_wp2_with (fail)
          refine (RN2.out _).mono ?_; rintro e w5 ⟨rfl, rfl⟩
          go_wp2_with (fail)
          refine (LA.out _).mono ?_; rintro e w5 ⟨rfl, rfl⟩
          go_wp2
          go_ret
          exact ⟨rfl, hB.out⟩
theorem walk_back (w : World) (x0 x1 y0 y1 : Int) (u0 u1 : Bool) (b0 : 0 ≤ x0 ∧ x0 < 256) (b1 : 0 ≤ x1 ∧ x1 < 256) (b2 : 0 ≤ y0 ∧ y0 < 256) (b3 : 0 ≤ y1 ∧ y1 < 256) (hC : Na.Conds w) :
    Calls Tryd.prog 4 #[.agg #[.int .u8 x0, .int .u8 x1], .agg #[.int .u8 y0, .int .u8 y1], .agg #[.bool u0, .bool u1]] w fun e w' => e = .returned (.bool true) ∧ Below w.heap.size w w' := by
  obtain ⟨k, hk⟩ : ∃ k, x0 % 12 = k := ⟨_, rfl⟩
  obtain ⟨p, hp⟩ : ∃ p, x1 % 17 = p := ⟨_, rfl⟩
  obtain ⟨k2, hk2⟩ : ∃ k, y0 % 12 = k := ⟨_, rfl⟩
  obtain ⟨p2, hp2⟩ : ∃ p, y1 % 17 = p := ⟨_, rfl⟩
  obtain ⟨p', hp3⟩ : ∃ q, p % 16 = q := ⟨_, rfl⟩
  have w1 : Na.Wf (k, p, u0) := Na.wf_of (by omega) (by omega) (by omega) (by omega)
  have w2 : Na.Wf (k2, p2, u1) := Na.wf_of (by omega) (by omega) (by omega) (by omega)
  have hb := Na.w3_below x0 x1 y0 y1 u0 u1 w
  have m3 : p' ∈ Na.sixteen := by unfold Na.sixteen; simp only [List.mem_cons, List.not_mem_nil, or_false]; omega
  obtain ⟨_, _, a3, a4, _, _⟩ := Na.rs_all p' m3
  have LA : Hid (∀ w, Calls Tryd.prog 14 #[.string (Na.rs p')] w fun e w' => e = .returned (.bool false) ∧ w = w') := Lib.hid fun w => by
    have := Na.label_any (Na.rs p') (by omega) w
    rw [a3] at this
    exact this
  obtain ⟨r, is, hR, hr⟩ : ∃ r is, Na.regV (Na.reg (L.bs (Na.rs p))) = .tuple #[.int .i64 r, .bool is] ∧ ((p < 16 ∧ is = true ∧ p = r) ∨ (p = 16 ∧ is = false ∧ r = 0)) := by
    by_cases c : p < 16
    · have mp : p ∈ Na.sixteen := by unfold Na.sixteen; simp only [List.mem_cons, List.not_mem_nil, or_false]; omega
      refine ⟨p, true, ?_, Or.inl ⟨c, rfl, rfl⟩⟩
      rw [(Na.rs_all p mp).1]; rfl
    · have e : p = 16 := by omega
      subst e
      refine ⟨0, false, ?_, Or.inr ⟨rfl, rfl, rfl⟩⟩
      rw [show Na.reg (L.bs (Na.rs 16)) = none by decide +kernel]; rfl
  have RE : Hid (∀ w, Calls Tryd.prog 10 #[.string (Na.rs p)] w fun e w' => e = .returned (.tuple #[.int .i64 r, .bool is]) ∧ w = w') := Lib.hid fun w => by
    have := Na.reg_any (Na.rs p) w
    rw [hR] at this
    exact this
  by_cases c : Na.mn k p u0 = []
  · have eM : Na.ms k p u0 = ⟨#[]⟩ := Na.ms_of (by rw [c]; rfl)
    have hO : Na.ofV (Na.of (L.bs (Na.ms k p u0))) = .tuple #[.int .i64 0, .int .i64 0, .bool false, .bool false] := by
      rw [eM, Na.of_nil rfl]; rfl
    refine walk_back_at w x0 x1 y0 y1 k p k2 p2 0 0 r p' u0 u1 false false is (Na.ms k p u0) (Na.ms k2 p2 u1) (Na.rs p) (Na.rs p') b0 b1 b2 b3 hk hp hk2 hp2 (by omega) (by omega) hp3 (Lib.hid (Na.shown_any (hC.below hb)))
      (Lib.hid fun w2 hB => Na.mn_any (hC.below hB) u0 w1) (Lib.hid fun w3 hB => Na.mn_any (hC.below hB) u1 w2) (Lib.hid fun w2 hB => ?_) (Lib.hid fun w => Na.regName_any p w) RE (Lib.hid fun w => Na.regName_any p' w) LA (Lib.hid (Or.inl ⟨eM, rfl, rfl, rfl, rfl⟩))
    have := Na.of_any (Na.ms k p u0) (hC.below hB)
    rw [hO] at this
    exact this
  · have hO := Na.of_ms c
    have e0 : ((Na.ms k p u0).toList == []) = false := by
      rw [Na.list_at, Na.ms_bs]
      exact decide_eq_false c
    have e00 : (Na.ms k p u0).toList.isEmpty = false := by
      cases h : (Na.ms k p u0).toList with
      | nil => rw [h] at e0; exact e0
      | cons a l => rfl
    refine walk_back_at w x0 x1 y0 y1 k p k2 p2 k p r p' u0 u1 u0 true is (Na.ms k p u0) (Na.ms k2 p2 u1) (Na.rs p) (Na.rs p') b0 b1 b2 b3 hk hp hk2 hp2 (by omega) (by omega) hp3 (Lib.hid (Na.shown_any (hC.below hb)))
      (Lib.hid fun w2 hB => Na.mn_any (hC.below hB) u0 w1) (Lib.hid fun w3 hB => Na.mn_any (hC.below hB) u1 w2) (Lib.hid fun w2 hB => ?_) (Lib.hid fun w => Na.regName_any p w) RE (Lib.hid fun w => Na.regName_any p' w) LA (Lib.hid (Or.inr ⟨e0, e00, rfl, rfl, rfl, rfl, hr, ?_⟩))
    · have := Na.of_any (Na.ms k p u0) (hC.below hB)
      rw [hO] at this
      exact this
    · by_cases g : k = k2 ∧ p = p2 ∧ u0 = u1
      · obtain ⟨rfl, rfl, rfl⟩ := g
        exact Or.inl ⟨rfl, rfl, rfl, rfl⟩
      · refine Or.inr ⟨?_, ?_⟩
        · rw [Na.list_eq, Na.ms_bs, Na.ms_bs]
          exact decide_eq_false fun q => g (Na.mn_inj c q)
        · by_cases g1 : k = k2
          · by_cases g2 : p = p2
            · exact Or.inr (Or.inr ⟨g1, g2, fun q => g ⟨g1, g2, q⟩⟩)
            · exact Or.inr (Or.inl ⟨g1, g2⟩)
          · exact Or.inl g1
end Go.Proofs.YtkkoihhkfophnaaDoor
