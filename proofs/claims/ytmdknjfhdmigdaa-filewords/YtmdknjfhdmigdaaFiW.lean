/-
  The walk of FileWords.
-/
import Derived.Test.YtmdknjfhdmigdaaFi8
namespace Go.Proofs.Ytmdknjfhdmigdaa
open Go.RowKit
set_option linter.unusedVariables false
set_option linter.unusedSimpArgs false
set_option maxRecDepth 100000
set_option maxHeartbeats 2000000 in
set_option maxRecDepth 100000 in
theorem walk_words (w : World) (A : Option Addr) (n c : Nat) (ls : List Int) (hW : Wo w A n c ls) (a1 : Int) (f0 : 0 ≤ a1) (f1 : a1 < 4294967296) (a2 : Int) (u0 : 0 ≤ a2) (u1 : a2 < 4294967296) :
    Calls Try.prog 6 #[.slice A n c, .int .u32 a1, .int .u32 a2] w fun e w' => e = .returned (.bool true) ∧ Below w.heap.size w w' := by
  have hle := hW.le
  have hmx := hW.max
  unfold maxLen at hmx
  obtain ⟨n1, hn1⟩ : ∃ n1, min n 30 = n1 := ⟨_, rfl⟩
  have hX := Lib.hid (hW.take n1 (by omega))
  have hwl := hX.out.len
  have hq2 : (if (30 : Int) < (n : Int) then (30 : Int) else (n : Int)) = n1 := by split <;> omega
  have hnc : n1 ≤ c := by omega
  have hn30 : n1 ≤ 30 := by omega
  generalize ls.take n1 = ws at *
  have T0 := Fi.take_words (w := ws) (by omega) hX.out.rng
  have T2 := Fi.take_far (w := ws) (h := (n1 : Int) + 1 + a2 % 1000) (by omega) hX.out.rng (by omega) (by omega)
  rw [hwl] at T0 T2
  replace T0 := Lib.hid T0
  replace T2 := Lib.hid T2
  clear hW hn1
  go_enter Try.func6, Try.ntmps6
  go_wp2_with (fail)
  refine (Fi.shown_any w).mono ?_; rintro r w1 ⟨rfl, hE⟩
  have hB := Lib.hid hE
  clear hE
  have hA := ((Kept.refl w1).alloc #[.int .u32 894847314, .int .u32 n1, .int .u32 0, .int .u32 0] 45).below
  have hH := Lib.hid (show Wo _ (some ⟨w1.heap.size, 0, none⟩) 4 4 [(894847314 : Int), (n1 : Int), (0 : Int), (0 : Int)] from Rw.of (k := .u32) (L := 4294967296) [(894847314 : Int), (n1 : Int), (0 : Int), (0 : Int)] (Has.new #[.int .u32 894847314, .int .u32 n1, .int .u32 0, .int .u32 0] 45 w1) (by simp [maxLen]) (by intro x hx; simp only [List.mem_cons, List.not_mem_nil, or_false] at hx; rcases hx with rfl | rfl | rfl | rfl <;> omega))
  replace hB := Lib.hid (hB.out.trans (hA.mono hB.out.size))
  clear hA
  go_wp2_with (fail)
  generalize hwG : w1.alloc (.cells #[.int .u32 894847314, .int .u32 n1, .int .u32 0, .int .u32 0] 45) = w10a at *
  clear hwG
  refine (L.put_own hH.out (by omega)).mono ?_; rintro r w10 ⟨g10, cap10, rfl, hQ, hE⟩
  replace hQ := Lib.hid (hQ.lower hB.out.size)
  replace hB := Lib.hid (hB.out.trans (hE.mono hB.out.size))
  clear hH hE
  go_wp2_with (fail)
  refine (L.put_any (hX.out.below hB.out) (by omega)).mono ?_; rintro r w11 ⟨g11, cap11, rfl, hV, hE⟩
  replace hB := Lib.hid (hB.out.trans (hE.mono hB.out.size))
  replace hQ := Lib.hid (hQ.out.below hE)
  replace hV := Lib.hid hV
  have hsC := hB.out.size
  clear hE
  go_wp2_with (first
    | (with_reducible refine append_row (o := ⟨some 37, _, _, _, _, _⟩) (L := 256) Try.underlying27 L.info8 (by omega) rfl (.tmp 34) (.tmp 36) rfl w.heap.size g10 (4 * 4) cap10 _ rfl hQ.out _ (4 * n1) cap11 _ rfl hV.out (by omega) hsC ?_
       intro g12 cap12 w12 hQ12 hG
       have hZ := Lib.hid (hQ12.rw (L := 256) (L.byt_append (L.put_byt _) (L.put_byt _)))
       have hB12 := Lib.hid (hB.out.grown hG hsC (fun q e => by cases e; exact hQ.out.has.1))
       clear hG hQ12 hQ hV hB hsC)
    | fail)
  have hB := hB12
  clear hB12
  refine (Fi.take_any hZ.out (by omega)).mono ?_; rintro r w13 ⟨A13, n13, c13, B13, m13, d13, C13, k13, f13, rfl, hW13, hS13, hY13, hE⟩
  rw [T0.out] at hW13 hS13 hY13 ⊢
  rw [show Fi.tE (.ok (ws, [], [])) = 0 from rfl]
  have hA := ((Kept.refl w13).alloc #[.slice A13 n13 c13, .slice B13 m13 d13, .slice C13 k13 f13] 26).below
  have hO13 := Lib.hid (Has.new #[.slice A13 n13 c13, .slice B13 m13 d13, .slice C13 k13 f13] 26 w13)
  have hBx := hB.out.trans (hE.mono hB.out.size)
  replace hB := Lib.hid (hBx.trans (hA.mono hBx.size))
  replace hW13 := Lib.hid (hW13.below hA)
  replace hS13 := Lib.hid (hS13.below hA)
  replace hY13 := Lib.hid (hY13.below hA)
  clear hE hA hBx hZ
  go_upto_region 6 with (fail)
  generalize hwG : w13.alloc (.cells #[.slice A13 n13 c13, .slice B13 m13 d13, .slice C13 k13 f13] 26) = w14 at *
  clear hwG
  generalize w13.heap.size = OX at *
  have hR := Lib.hid (Below.refl w14.heap.size w14)
  have hA := ((Kept.refl w14).alloc #[.int .u32 a1, .int .u32 n1, .int .u32 0, .int .u32 0] 45).below
  have hH := Lib.hid (show Wo _ (some ⟨w14.heap.size, 0, none⟩) 4 4 [(a1 : Int), (n1 : Int), (0 : Int), (0 : Int)] from Rw.of (k := .u32) (L := 4294967296) [(a1 : Int), (n1 : Int), (0 : Int), (0 : Int)] (Has.new #[.int .u32 a1, .int .u32 n1, .int .u32 0, .int .u32 0] 45 w14) (by simp [maxLen]) (by intro x hx; simp only [List.mem_cons, List.not_mem_nil, or_false] at hx; rcases hx with rfl | rfl | rfl | rfl <;> omega))
  replace hR := Lib.hid (hR.out.trans (hA.mono hR.out.size))
  clear hA
  go_wp2_with (fail)
  generalize hwG : w14.alloc (.cells #[.int .u32 a1, .int .u32 n1, .int .u32 0, .int .u32 0] 45) = w20a at *
  clear hwG
  refine (L.put_own hH.out (by omega)).mono ?_; rintro r w20 ⟨g20, cap20, rfl, hQ, hE⟩
  replace hQ := Lib.hid (hQ.lower hR.out.size)
  replace hR := Lib.hid (hR.out.trans (hE.mono hR.out.size))
  clear hH hE
  go_wp2_with (fail)
  refine (L.put_any (hX.out.below (hB.out.trans (hR.out.mono hB.out.size))) (by omega)).mono ?_; rintro r w21 ⟨g21, cap21, rfl, hV, hE⟩
  replace hR := Lib.hid (hR.out.trans (hE.mono hR.out.size))
  replace hQ := Lib.hid (hQ.out.below hE)
  replace hV := Lib.hid hV
  have hsC := hR.out.size
  clear hE
  go_wp2_with (first
    | (with_reducible refine append_row (o := ⟨some 49, _, _, _, _, _⟩) (L := 256) Try.underlying27 L.info8 (by omega) rfl (.tmp 46) (.tmp 48) rfl w14.heap.size g20 (4 * 4) cap20 _ rfl hQ.out _ (4 * n1) cap21 _ rfl hV.out (by omega) hsC ?_
       intro g22 cap22 w22 hQ22 hG
       have hZ := Lib.hid (hQ22.rw (L := 256) (L.byt_append (L.put_byt _) (L.put_byt _)))
       have hB22 := Lib.hid (hR.out.grown hG hsC (fun q e => by cases e; exact hQ.out.has.1))
       clear hG hQ22 hQ hV hR hsC)
    | fail)
  have hR := hB22
  clear hB22
  refine (Fi.take_any hZ.out (by omega)).mono ?_; rintro r w23 ⟨A23, n23, c23, B23, m23, d23, C23, k23, f23, rfl, hW23, hS23, hY23, hE⟩
  obtain ⟨z1, hz1⟩ : ∃ z, Fi.tE (Fi.take (L.put [a1, (n1 : Int), 0, 0] ++ L.put ws)) = z := ⟨_, rfl⟩
  rw [hz1]
  replace hz1 := Lib.hid hz1
  have hA := ((Kept.refl w23).alloc #[.slice A23 n23 c23, .slice B23 m23 d23, .slice C23 k23 f23] 26).below
  have hO23 := Lib.hid (Has.new #[.slice A23 n23 c23, .slice B23 m23 d23, .slice C23 k23 f23] 26 w23)
  have hBx := hR.out.trans (hE.mono hR.out.size)
  replace hR := Lib.hid (hBx.trans (hA.mono hBx.size))
  replace hW23 := Lib.hid (hW23.below hA)
  replace hS23 := Lib.hid (hS23.below hA)
  replace hY23 := Lib.hid (hY23.below hA)
  clear hE hA hBx hZ
  clear hW23 hS23 hY23 hO23
  go_upto_region 8 with (fail)
  generalize hwG : w23.alloc (.cells #[.slice A23 n23 c23, .slice B23 m23 d23, .slice C23 k23 f23] 26) = w24 at *
  clear hwG
  have hA := ((Kept.refl w24).alloc #[.int .u32 894847314, .int .u32 n1, .int .u32 (n1 + 1 + a2 % 1000), .int .u32 0] 45).below
  have hH := Lib.hid (show Wo _ (some ⟨w24.heap.size, 0, none⟩) 4 4 [(894847314 : Int), (n1 : Int), (n1 + 1 + a2 % 1000 : Int), (0 : Int)] from Rw.of (k := .u32) (L := 4294967296) [(894847314 : Int), (n1 : Int), (n1 + 1 + a2 % 1000 : Int), (0 : Int)] (Has.new #[.int .u32 894847314, .int .u32 n1, .int .u32 (n1 + 1 + a2 % 1000), .int .u32 0] 45 w24) (by simp [maxLen]) (by intro x hx; simp only [List.mem_cons, List.not_mem_nil, or_false] at hx; rcases hx with rfl | rfl | rfl | rfl <;> omega))
  replace hR := Lib.hid (hR.out.trans (hA.mono hR.out.size))
  clear hA
  go_wp2_with (fail)
  generalize hwG : w24.alloc (.cells #[.int .u32 894847314, .int .u32 n1, .int .u32 (n1 + 1 + a2 % 1000), .int .u32 0] 45) = w30a at *
  clear hwG
  refine (L.put_own hH.out (by omega)).mono ?_; rintro r w30 ⟨g30, cap30, rfl, hQ, hE⟩
  replace hQ := Lib.hid (hQ.lower hR.out.size)
  replace hR := Lib.hid (hR.out.trans (hE.mono hR.out.size))
  clear hH hE
  go_wp2_with (fail)
  refine (L.put_any (hX.out.below (hB.out.trans (hR.out.mono hB.out.size))) (by omega)).mono ?_; rintro r w31 ⟨g31, cap31, rfl, hV, hE⟩
  replace hR := Lib.hid (hR.out.trans (hE.mono hR.out.size))
  replace hQ := Lib.hid (hQ.out.below hE)
  replace hV := Lib.hid hV
  have hsC := hR.out.size
  clear hE
  go_wp2_with (first
    | (with_reducible refine append_row (o := ⟨some 65, _, _, _, _, _⟩) (L := 256) Try.underlying27 L.info8 (by omega) rfl (.tmp 62) (.tmp 64) rfl w14.heap.size g30 (4 * 4) cap30 _ rfl hQ.out _ (4 * n1) cap31 _ rfl hV.out (by omega) hsC ?_
       intro g32 cap32 w32 hQ32 hG
       have hZ := Lib.hid (hQ32.rw (L := 256) (L.byt_append (L.put_byt _) (L.put_byt _)))
       have hB32 := Lib.hid (hR.out.grown hG hsC (fun q e => by cases e; exact hQ.out.has.1))
       clear hG hQ32 hQ hV hR hsC)
    | fail)
  have hR := hB32
  clear hB32
  refine (Fi.take_any hZ.out (by omega)).mono ?_; rintro r w33 ⟨A33, n33, c33, B33, m33, d33, C33, k33, f33, rfl, hW33, hS33, hY33, hE⟩
  rw [T2.out]
  rw [show Fi.tE (.error 10) = 10 from rfl]
  have hA := ((Kept.refl w33).alloc #[.slice A33 n33 c33, .slice B33 m33 d33, .slice C33 k33 f33] 26).below
  have hO33 := Lib.hid (Has.new #[.slice A33 n33 c33, .slice B33 m33 d33, .slice C33 k33 f33] 26 w33)
  have hBx := hR.out.trans (hE.mono hR.out.size)
  replace hR := Lib.hid (hBx.trans (hA.mono hBx.size))
  replace hW33 := Lib.hid (hW33.below hA)
  replace hS33 := Lib.hid (hS33.below hA)
  replace hY33 := Lib.hid (hY33.below hA)
  clear hE hA hBx hZ
  clear hW33 hS33 hY33 hO33
  go_upto_region 10 with (fail)
  generalize hwG : w33.alloc (.cells #[.slice A33 n33 c33, .slice B33 m33 d33, .slice C33 k33 f33] 26) = w34 at *
  clear hwG
  have hA := ((Kept.refl w34).alloc #[.int .u32 894847314, .int .u32 1025, .int .u32 0, .int .u32 0] 45).below
  have hH := Lib.hid (show Wo _ (some ⟨w34.heap.size, 0, none⟩) 4 4 [(894847314 : Int), (1025 : Int), (0 : Int), (0 : Int)] from Rw.of (k := .u32) (L := 4294967296) [(894847314 : Int), (1025 : Int), (0 : Int), (0 : Int)] (Has.new #[.int .u32 894847314, .int .u32 1025, .int .u32 0, .int .u32 0] 45 w34) (by simp [maxLen]) (by intro x hx; simp only [List.mem_cons, List.not_mem_nil, or_false] at hx; rcases hx with rfl | rfl | rfl | rfl <;> omega))
  replace hR := Lib.hid (hR.out.trans (hA.mono hR.out.size))
  clear hA
  go_wp2_with (fail)
  generalize hwG : w34.alloc (.cells #[.int .u32 894847314, .int .u32 1025, .int .u32 0, .int .u32 0] 45) = w40a at *
  clear hwG
  refine (L.put_own hH.out (by omega)).mono ?_; rintro r w40 ⟨g40, cap40, rfl, hQ, hE⟩
  replace hQ := Lib.hid (hQ.lower hR.out.size)
  replace hR := Lib.hid (hR.out.trans (hE.mono hR.out.size))
  clear hH hE
  have hQ2 := Lib.hid (hQ.out.rw (L := 256) (L.put_byt _))
  go_wp2_with (fail)
  refine (Fi.take_any hQ2.out (by omega)).mono ?_; rintro r w43 ⟨A43, n43, c43, B43, m43, d43, C43, k43, f43, rfl, hW43, hS43, hY43, hE⟩
  rw [Fi.take_big (n := 1025) (h := 0) (k := 0) (by decide) (by decide) (by decide) (by decide) (Or.inl (by decide))]
  rw [show Fi.tE (.error 2) = 2 from rfl]
  have hA := ((Kept.refl w43).alloc #[.slice A43 n43 c43, .slice B43 m43 d43, .slice C43 k43 f43] 26).below
  have hBx := hR.out.trans (hE.mono hR.out.size)
  replace hR := Lib.hid (hBx.trans (hA.mono hBx.size))
  clear hE hA hBx hQ hQ2 hW43 hS43 hY43
  go_upto_region 11 with (fail)
  generalize hwG : w43.alloc (.cells #[.slice A43 n43 c43, .slice B43 m43 d43, .slice C43 k43 f43] 26) = w44 at *
  clear hwG
  have hA := ((Kept.refl w44).alloc #[.int .u32 894847314, .int .u32 0, .int .u32 0, .int .u32 65] 45).below
  have hH := Lib.hid (show Wo _ (some ⟨w44.heap.size, 0, none⟩) 4 4 [(894847314 : Int), (0 : Int), (0 : Int), (65 : Int)] from Rw.of (k := .u32) (L := 4294967296) [(894847314 : Int), (0 : Int), (0 : Int), (65 : Int)] (Has.new #[.int .u32 894847314, .int .u32 0, .int .u32 0, .int .u32 65] 45 w44) (by simp [maxLen]) (by intro x hx; simp only [List.mem_cons, List.not_mem_nil, or_false] at hx; rcases hx with rfl | rfl | rfl | rfl <;> omega))
  replace hR := Lib.hid (hR.out.trans (hA.mono hR.out.size))
  clear hA
  go_wp2_with (fail)
  generalize hwG : w44.alloc (.cells #[.int .u32 894847314, .int .u32 0, .int .u32 0, .int .u32 65] 45) = w50a at *
  clear hwG
  refine (L.put_own hH.out (by omega)).mono ?_; rintro r w50 ⟨g50, cap50, rfl, hQ, hE⟩
  replace hQ := Lib.hid (hQ.lower hR.out.size)
  replace hR := Lib.hid (hR.out.trans (hE.mono hR.out.size))
  clear hH hE
  have hQ2 := Lib.hid (hQ.out.rw (L := 256) (L.put_byt _))
  go_wp2_with (fail)
  refine (Fi.take_any hQ2.out (by omega)).mono ?_; rintro r w53 ⟨A53, n53, c53, B53, m53, d53, C53, k53, f53, rfl, hW53, hS53, hY53, hE⟩
  rw [Fi.take_big (n := 0) (h := 0) (k := 65) (by decide) (by decide) (by decide) (by decide) (Or.inr (by decide))]
  rw [show Fi.tE (.error 2) = 2 from rfl]
  have hA := ((Kept.refl w53).alloc #[.slice A53 n53 c53, .slice B53 m53 d53, .slice C53 k53 f53] 26).below
  have hBx := hR.out.trans (hE.mono hR.out.size)
  replace hR := Lib.hid (hBx.trans (hA.mono hBx.size))
  clear hE hA hBx hQ hQ2 hW53 hS53 hY53
  go_upto_region 12 with (fail)
  generalize hwG : w53.alloc (.cells #[.slice A53 n53 c53, .slice B53 m53 d53, .slice C53 k53 f53] 26) = w54 at *
  clear hwG
  have hS54 := hR.out.size
  replace hB := Lib.hid (hB.out.trans (hR.out.mono hB.out.size))
  replace hO13 := hO13.out.below hR.out
  replace hW13 := Lib.hid (hW13.out.below hR.out)
  replace hS13 := Lib.hid (hS13.out.below hR.out)
  replace hY13 := Lib.hid (hY13.out.below hR.out)
  have hXn := Lib.hid (hX.out.below hB.out)
  have o0 := hO13.cell 0 (.slice A13 n13 c13) rfl
  have o1 := hO13.cell 1 (.slice B13 m13 d13) rfl
  have o2 := hO13.cell 2 (.slice C13 k13 f13) rfl
  clear hO13 hR hX
  by_cases cf : a1 = 894847314
  · have e1 : (a1 == 894847314) = true := by simpa using cf
    have e2 : (a1 != 894847314) = false := by simpa using cf
    have hz : z1 = 0 := by
      rw [← hz1.out, cf]
      show Fi.tE (Fi.take (L.put [894847314, (n1 : Int), 0, 0] ++ L.put ws)) = 0
      rw [T0.out]; rfl
    subst hz
    clear hz1 T0 T2
    go_wp2_with (fail)
    clear o0 o1 o2
    refine (Ob.same_any hW13.out hS13.out hY13.out hXn.out (Rg.empty _ _) (Sy.empty _)).mono ?_; rintro r w60 ⟨rfl, hE⟩
    rw [show Ob.same (Fi.tW (.ok (ws, [], []))) (Fi.tS (.ok (ws, [], []))) (Fi.tY (.ok (ws, [], []))) ws [] [] = true from Ob.same_self ws [] []]
    replace hB := Lib.hid (hB.out.trans (hE.mono hB.out.size))
    clear hE
    go_wp2
    go_ret
    exact ⟨rfl, hB.out⟩
  · have e1 : (a1 == 894847314) = false := by simpa using cf
    have e2 : (a1 != 894847314) = true := by simpa using cf
    have hz : z1 = 5 := by
      rw [← hz1.out, Fi.take_first f0 f1 cf]; rfl
    subst hz
    clear hz1 T0 T2
    go_wp2_with (fail)
    clear o0 o1 o2
    refine (Ob.same_any hW13.out hS13.out hY13.out hXn.out (Rg.empty _ _) (Sy.empty _)).mono ?_; rintro r w60 ⟨rfl, hE⟩
    rw [show Ob.same (Fi.tW (.ok (ws, [], []))) (Fi.tS (.ok (ws, [], []))) (Fi.tY (.ok (ws, [], []))) ws [] [] = true from Ob.same_self ws [] []]
    replace hB := Lib.hid (hB.out.trans (hE.mono hB.out.size))
    clear hE
    go_wp2
    go_ret
    exact ⟨rfl, hB.out⟩
end Go.Proofs.Ytmdknjfhdmigdaa
