/-
  The walk of FileNames.
-/
import Derived.Test.YtmdknjfhdmigdaaFi8
namespace Go.Proofs.Ytmdknjfhdmigdaa
open Go.RowKit
set_option linter.unusedVariables false
set_option linter.unusedSimpArgs false
set_option maxRecDepth 100000
theorem Fi.rise_eq {W S : List Int} {y1 y2 : Ob.Y} : ((((L.put (Fi.head (W.length : Int) (Ch.prev S S.length + 1) 2) ++ L.put (Ch.pk W S S.length)) ++ L.nameB (L.bs y1.1)) ++ L.put [y1.2]) ++ L.nameB (L.bs y2.1)) ++ L.put [y2.2] = Fi.put W S [y1, y2] := by
  unfold Fi.put Fi.names Fi.one
  simp [Fi.four_put, List.append_assoc]
theorem Fi.pnx : L.pnE (L.bs ⟨#[120]⟩) = 0 ∧ L.pnB (L.bs ⟨#[120]⟩) = [1, 120, 0, 0] := by decide +kernel
theorem Fi.pny : L.pnE (L.bs ⟨#[121]⟩) = 0 ∧ L.pnB (L.bs ⟨#[121]⟩) = [1, 121, 0, 0] := by decide +kernel
set_option maxHeartbeats 2500000 in
set_option maxRecDepth 100000 in
theorem walk_names (w : World) (A B C : Option Addr) (n c m d k e : Nat) (ws bs : List Int) (ns : List ByteArray) (hW : Wo w A n c ws) (hS : By w B m d bs) (hN : St w C k e ns) (a1 : Int) (l1 : 0 ≤ a1) (u1 : a1 ≤ 65535) :
    Calls Try.prog 8 #[.agg #[.slice A n c, .slice B m d, .slice C k e], .int .u16 a1] w fun e w' => e = .returned (.bool true) ∧ Below w.heap.size w w' := by
  clear hN
  have hB := ((Kept.refl w).alloc #[.slice A n c, .slice B m d, .slice C k e] 40).below
  have hO := Lib.hid (Has.new #[.slice A n c, .slice B m d, .slice C k e] 40 w)
  have CF := fun w' (hb : Below w.heap.size w w') => Ob.fit_any (ns := []) (hW.below hb) (hS.below hb) (⟨rfl, Nat.le_refl _, by simp [maxLen], fun _ => rfl, by simp, by simp⟩ : St w' none 0 0 [])
  have hF := Ob.fine_fit bs [] hW.rng
  have hWl := Ob.fW_len ws bs
  rw [hW.len] at hF hWl
  generalize Ob.fW ws bs = W at *
  generalize Ob.fS (min n 40) bs = S at *
  have hY0 : Ob.fY (min n 40) [] = [] := rfl
  simp only [hY0, List.length_nil] at CF hF
  clear hY0
  generalize min n 40 = n1 at *
  subst hWl
  replace CF := Lib.hid CF
  have hW40 := hF.hn
  have hS64 : S.length ≤ 65535 := by
    rcases Nat.eq_zero_or_pos S.length with q | q
    · omega
    · have h1 := hF.hR
      have h2 : ∀ j, j < S.length → (j : Int) ≤ S.getD j 0 := fun j => by
        induction j with
        | zero => intro hj; have := Ch.at_ge h1 0 hj; omega
        | succ j ih => intro hj; have := ih (by omega); have := Ch.mono h1 j (j + 1) (by omega) hj; omega
      have h3 := h2 (S.length - 1) (by omega)
      have h4 := Ch.at_ge h1 (S.length - 1) (by omega)
      omega
  replace hF := Lib.hid hF
  clear hW hS
  go_enter Try.func8, Try.ntmps8
  go_wp2_with (fail)
  generalize w.alloc (.cells #[.slice A n c, .slice B m d, .slice C k e] 40) = w1 at *
  refine (Fi.shown_any w1).mono ?_; rintro r w2 ⟨rfl, hE⟩
  replace hB := Lib.hid (hB.trans (hE.mono hB.size))
  replace hO := Lib.hid (hO.out.below hE)
  clear hE
  have o0 := hO.out.cell 0 (.slice A n c) rfl
  have o1 := hO.out.cell 1 (.slice B m d) rfl
  have o2 := hO.out.cell 2 (.slice C k e) rfl
  go_wp2_with (fail)
  clear o0 o1 o2
  refine (CF.out w2 hB.out).mono ?_; rintro r w3 ⟨gW, cW, gS, cS, C1, e1, rfl, hP, hQ, hY, hE⟩
  have hA3 := ((Kept.refl w3).alloc #[.slice (some ⟨gW, 0, none⟩) W.length cW, .slice (some ⟨gS, 0, none⟩) S.length cS, .slice C1 0 e1] 26).below
  have hX := Lib.hid (show Ob.Own w2.heap.size w3.heap.size (some ⟨gW, 0, none⟩) W.length cW (some ⟨gS, 0, none⟩) S.length cS C1 0 e1 W S [] (w3.alloc (.cells #[.slice (some ⟨gW, 0, none⟩) W.length cW, .slice (some ⟨gS, 0, none⟩) S.length cS, .slice C1 0 e1] 26)) from ⟨Has.new _ _ _, (hP.on.below hA3), (hQ.on.below hA3), hY.below hA3, hE.size⟩)
  replace hB := Lib.hid ((hB.out.trans (hE.mono hB.out.size)).trans (hA3.mono (Nat.le_trans hB.out.size hE.size)))
  replace hO := (hO.out.below hE).below hA3
  clear hP hQ hY hE hA3
  clear hO CF
  have o0 := hX.out.hG.cell 0 (.slice (some ⟨gW, 0, none⟩) W.length cW) rfl
  have o1 := hX.out.hG.cell 1 (.slice (some ⟨gS, 0, none⟩) S.length cS) rfl
  have o2 := hX.out.hG.cell 2 (.slice C1 0 e1) rfl
  go_wp2_with (fail)
  clear o0 o1 o2
  generalize hw4 : w3.alloc (.cells #[.slice (some ⟨gW, 0, none⟩) W.length cW, .slice (some ⟨gS, 0, none⟩) S.length cS, .slice C1 0 e1] 26) = w4 at *
  clear hw4
  generalize w3.heap.size = O at *
  have hK := Fi.may_ok hF.out.hr hF.out.ok
  have hPl := Ch.pk_len W S S.length
  have CP := fun (v : World) (h1 : Ob.Own w2.heap.size O (some ⟨gW, 0, none⟩) W.length cW (some ⟨gS, 0, none⟩) S.length cS C1 0 e1 W S [] v) => Fi.put_any (h1.wo hF.out.hr) h1.in h1.sy hF.out.siz
  rw [hF.out.ok, Fi.put_yes (w := w) hF.out.ok] at CP
  have hZb := Fi.put_byt hK
  have hpu : Fi.put W S [] = L.put (Fi.head (W.length : Int) (Ch.prev S S.length + 1) 0) ++ L.put (Ch.pk W S S.length) := by
    unfold Fi.put
    rw [show Fi.names [] = [] from rfl, List.append_nil]; rfl
  have hZl : (Fi.put W S []).length = 16 + 4 * W.length := by rw [hpu, List.length_append, Fi.head_len, L.put_len, hPl]
  have hset := Fi.set12 (W.length : Int) (Ch.prev S S.length + 1) 2 (L.put (Ch.pk W S S.length)) (by decide) (by decide)
  rw [← hpu] at hset
  have K1 := Fi.two_ok hF.out Fi.gx Fi.gy l1 (by omega)
  have K2 := Fi.two_ok hF.out Fi.gy Fi.gx l1 (by omega)
  have M1 := Fi.two_rise hF.out l1 (by omega)
  have M2 := Fi.two_fall hF.out (p := a1)
  have T1 := K1.take []
  have T2 := K2.take []
  have T3 := K1.cut
  rw [List.append_nil, if_neg (by simp), M1] at T1
  rw [List.append_nil, if_neg (by simp), M2, if_neg (by decide)] at T2
  rw [← Fi.rise_eq] at T1 T3
  rw [← Fi.rise_eq] at T2
  rw [← hset] at T1 T2 T3
  have hZ2b : L.Byt ((Fi.put W S []).set 12 2) := fun x hx => by
    rcases List.mem_or_eq_of_mem_set hx with q | q
    · exact hZb x q
    · omega
  have hZ2l : ((Fi.put W S []).set 12 2).length = 16 + 4 * W.length := by rw [List.length_set, hZl]
  generalize hZ2 : (Fi.put W S []).set 12 2 = Z2 at *
  generalize Fi.put W S [] = Z at *
  have nx := Fi.nx
  have ny := Fi.ny
  rw [nx, ny] at T1 T2 T3
  replace T1 := Lib.hid T1
  replace T2 := Lib.hid T2
  replace T3 := Lib.hid T3
  replace hZ2 := Lib.hid hZ2
  replace hZb := Lib.hid hZb
  replace hZ2b := Lib.hid hZ2b
  clear hK K1 K2 M1 M2 hset hpu hPl nx ny
  refine (CP _ hX.out).mono ?_; rintro r w5 ⟨A5, n5, c5, rfl, hP, hE⟩
  clear CP
  have hn5 : n5 = 16 + 4 * W.length := by rw [← hP.rg.len, hZl]
  obtain ⟨gB, rfl⟩ : ∃ g, A5 = some ⟨g, 0, none⟩ := by
    rcases hP.cases with ⟨_, h0, _⟩ | ⟨g, rfl, _⟩
    · omega
    · exact ⟨g, rfl⟩
  have hPo : Ow 5 .u8 w4.heap.size gB n5 c5 Z w5 := hP
  have g12 := hPo.at 12 (by omega)
  have f12 := hPo.free 12
  have hge := hPo.has.1
  have hlt5 := hPo.lt
  have hB4 := hB.out.size
  replace hB := Lib.hid (hB.out.trans (hE.mono hB.out.size))
  have hX4 := hX.out.hG.lt
  have hO5 := hX.out.hG.below hE
  have hn16 : ¬ (n5 : Int) < 16 := by omega
  have hn12 : (12 : Int) < n5 := by omega
  have hn5b : 16 ≤ n5 ∧ n5 ≤ 200 := by omega
  replace hn5 := Lib.hid hn5
  have hS5 := hPo.set 12 2
  rw [hZ2.out] at hS5
  have hB6 := Lib.hid (hB.out.setCell (p := ⟨gB, 12, none⟩) (by show w.heap.size ≤ gB; omega) (.int .u8 2))
  have hO6 := Lib.hid (hO5.other (p := ⟨gB, 12, none⟩) (by show O ≠ gB; omega) (.int .u8 2))
  have hS6 := Lib.hid (hS5.rw (L := 256) hZ2b.out)
  clear hP hPo hE hX hO5 hB hS5 hge hlt5 hX4
  go_wp2_with (fail)
  clear g12 f12
  generalize hwG : w5.setCell ⟨gB, 12, none⟩ (.int .u8 2) = w6 at *
  clear hwG
  refine (L.putName_any ⟨#[120]⟩ (by decide) w6).mono ?_; rintro r w7 ⟨Ax, nx, cx, rfl, hx, hE⟩
  rw [show L.pnE (L.bs ⟨#[120]⟩) = 0 from Fi.pnx.1]
  rw [Fi.pnx.2] at hx
  have hnx : nx = 4 := by rw [← hx.len]; rfl
  subst hnx
  replace hB6 := Lib.hid (hB6.out.trans (hE.mono hB6.out.size))
  replace hO6 := Lib.hid (hO6.out.below hE)
  replace hS6 := Lib.hid (hS6.out.below hE)
  replace hx := Lib.hid hx
  clear hE
  go_wp2_with (fail)
  refine (L.putName_any ⟨#[121]⟩ (by decide) w7).mono ?_; rintro r w8 ⟨Ay, ny, cy, rfl, hy, hE⟩
  rw [show L.pnE (L.bs ⟨#[121]⟩) = 0 from Fi.pny.1]
  rw [Fi.pny.2] at hy
  have hny : ny = 4 := by rw [← hy.len]; rfl
  subst hny
  replace hB6 := Lib.hid (hB6.out.trans (hE.mono hB6.out.size))
  replace hO6 := Lib.hid (hO6.out.below hE)
  replace hS6 := Lib.hid (hS6.out.below hE)
  replace hx := Lib.hid (hx.out.below hE)
  replace hy := Lib.hid hy
  clear hE
  have hA := ((Kept.refl w8).alloc #[.int .u32 a1] 45).below
  have hV := Lib.hid (Rw.one (k := .u32) (L := 4294967296) (Has.new #[.int .u32 a1] 45 w8) l1 (by omega))
  replace hB6 := Lib.hid (hB6.out.trans (hA.mono hB6.out.size))
  replace hO6 := Lib.hid (hO6.out.below hA)
  replace hS6 := Lib.hid (hS6.out.below hA)
  replace hx := Lib.hid (hx.out.below hA)
  replace hy := Lib.hid (hy.out.below hA)
  clear hA
  go_wp2_with (fail)
  generalize hwG : w8.alloc (.cells #[.int .u32 a1] 45) = w9 at *
  clear hwG
  refine (L.put_any hV.out (by omega)).mono ?_; rintro r v0 ⟨gp, cp, rfl, hp, hE⟩
  have hB := Lib.hid (hB6.out.trans (hE.mono hB6.out.size))
  have hO := Lib.hid (hO6.out.below hE)
  have hb := Lib.hid (hS6.out.below hE)
  replace hx := Lib.hid (hx.out.below hE)
  replace hy := Lib.hid (hy.out.below hE)
  replace hp := Lib.hid hp
  clear hE hV hB6 hO6 hS6
  have hBx : ∀ x ∈ ([1, 120, 0, 0] : List Int), 0 ≤ x ∧ x < 256 := by decide
  have hBy : ∀ x ∈ ([1, 121, 0, 0] : List Int), 0 ≤ x ∧ x < 256 := by decide
  have hLP : L.Byt (L.put [a1]) := L.put_byt _
  have hL1 := L.byt_append hZ2b.out hBx
  have hL5 := Lib.hid (L.byt_append (L.byt_append (L.byt_append hL1 hLP) hBy) hLP)
  have hF5 := Lib.hid (L.byt_append (L.byt_append (L.byt_append (L.byt_append hZ2b.out hBy) hLP) hBx) hLP)
  clear hBx hBy hLP hL1
  generalize L.put [a1] = LP at *
  have hEr0 := Lib.hid (((Kept.refl v0).alloc #[] 5).below)
  have hQr0 := Lib.hid (Ow.new 5 .u8 v0 v0.heap.size (Nat.le_refl _))
  have hsr0 := Lib.hid (hb.out.below hEr0.out)
  go_wp2_with (first
    | (with_reducible refine append_row (o := ⟨some 61, _, _, _, _, _⟩) (L := 256) Try.underlying27 L.info8 (by omega) rfl (.tmp 59) (.tmp 60) rfl v0.heap.size v0.heap.size 0 0 [] rfl hQr0.out (some ⟨gB, 0, none⟩) n5 c5 Z2 rfl hsr0.out (by omega) hEr0.out.size ?_
       intro gr1 capr1 wr1 hQr1 hG
       have hEr1 := Lib.hid (hEr0.out.grown hG hEr0.out.size (fun q e => by cases e; exact Nat.le_refl _))
       obtain ⟨Nr1, hNr1⟩ : ∃ N, 0 + n5 = N := ⟨_, rfl⟩
       rw [hNr1] at hQr1 ⊢
       rw [List.nil_append] at hQr1
       replace hQr1 := Lib.hid hQr1
       have hsr1 := Lib.hid (hx.out.below hEr1.out)
       clear hG hQr0 hsr0 hEr0)
    | (with_reducible refine append_row (o := ⟨some 63, _, _, _, _, _⟩) (L := 256) Try.underlying27 L.info8 (by omega) rfl (.tmp 61) (.tmp 62) rfl v0.heap.size gr1 Nr1 capr1 Z2 rfl hQr1.out Ax 4 cx [1, 120, 0, 0] rfl hsr1.out (by omega) hEr1.out.size ?_
       intro gr2 capr2 wr2 hQr2 hG
       have hEr2 := Lib.hid (hEr1.out.grown hG hEr1.out.size (fun q e => by cases e; exact hQr1.out.has.1))
       obtain ⟨Nr2, hNr2⟩ : ∃ N, Nr1 + 4 = N := ⟨_, rfl⟩
       rw [hNr2] at hQr2 ⊢
       replace hQr2 := Lib.hid hQr2
       have hsr2 := Lib.hid (hp.out.below hEr2.out)
       clear hG hQr1 hsr1 hEr1)
    | (with_reducible refine append_row (o := ⟨some 66, _, _, _, _, _⟩) (L := 256) Try.underlying27 L.info8 (by omega) rfl (.tmp 64) (.tmp 65) rfl v0.heap.size gr2 Nr2 capr2 (Z2 ++ [1, 120, 0, 0]) rfl hQr2.out (some ⟨gp, 0, none⟩) (4 * 1) cp LP rfl hsr2.out (by omega) hEr2.out.size ?_
       intro gr3 capr3 wr3 hQr3 hG
       have hEr3 := Lib.hid (hEr2.out.grown hG hEr2.out.size (fun q e => by cases e; exact hQr2.out.has.1))
       obtain ⟨Nr3, hNr3⟩ : ∃ N, Nr2 + (4 * 1) = N := ⟨_, rfl⟩
       rw [hNr3] at hQr3 ⊢
       replace hQr3 := Lib.hid hQr3
       have hsr3 := Lib.hid (hy.out.below hEr3.out)
       clear hG hQr2 hsr2 hEr2)
    | (with_reducible refine append_row (o := ⟨some 68, _, _, _, _, _⟩) (L := 256) Try.underlying27 L.info8 (by omega) rfl (.tmp 66) (.tmp 67) rfl v0.heap.size gr3 Nr3 capr3 ((Z2 ++ [1, 120, 0, 0]) ++ LP) rfl hQr3.out Ay 4 cy [1, 121, 0, 0] rfl hsr3.out (by omega) hEr3.out.size ?_
       intro gr4 capr4 wr4 hQr4 hG
       have hEr4 := Lib.hid (hEr3.out.grown hG hEr3.out.size (fun q e => by cases e; exact hQr3.out.has.1))
       obtain ⟨Nr4, hNr4⟩ : ∃ N, Nr3 + 4 = N := ⟨_, rfl⟩
       rw [hNr4] at hQr4 ⊢
       replace hQr4 := Lib.hid hQr4
       have hsr4 := Lib.hid (hp.out.below hEr4.out)
       clear hG hQr3 hsr3 hEr3)
    | (with_reducible refine append_row (o := ⟨some 70, _, _, _, _, _⟩) (L := 256) Try.underlying27 L.info8 (by omega) rfl (.tmp 68) (.tmp 69) rfl v0.heap.size gr4 Nr4 capr4 (((Z2 ++ [1, 120, 0, 0]) ++ LP) ++ [1, 121, 0, 0]) rfl hQr4.out (some ⟨gp, 0, none⟩) (4 * 1) cp LP rfl hsr4.out (by omega) hEr4.out.size ?_
       intro gr5 capr5 wr5 hQr5 hG
       have hEr5 := Lib.hid (hEr4.out.grown hG hEr4.out.size (fun q e => by cases e; exact hQr4.out.has.1))
       obtain ⟨Nr5, hNr5⟩ : ∃ N, Nr4 + (4 * 1) = N := ⟨_, rfl⟩
       rw [hNr5] at hQr5 ⊢
       replace hQr5 := Lib.hid hQr5
       clear hG hQr4 hsr4 hEr4
       have hRi := Lib.hid (hQr5.out.rw (L := 256) hL5.out)
       replace hB := Lib.hid (hB.out.trans (hEr5.out.mono hB.out.size))
       replace hO := Lib.hid (hO.out.below hEr5.out)
       replace hb := Lib.hid (hb.out.below hEr5.out)
       replace hx := Lib.hid (hx.out.below hEr5.out)
       replace hy := Lib.hid (hy.out.below hEr5.out)
       replace hp := Lib.hid (hp.out.below hEr5.out)
       have hEf0 := Lib.hid (((Kept.refl wr5).alloc #[] 5).below)
       have hQf0 := Lib.hid (Ow.new 5 .u8 wr5 wr5.heap.size (Nat.le_refl _))
       have hsf0 := Lib.hid (hb.out.below hEf0.out)
       clear hQr5 hEr5)
    | (with_reducible refine append_row (o := ⟨some 73, _, _, _, _, _⟩) (L := 256) Try.underlying27 L.info8 (by omega) rfl (.tmp 71) (.tmp 72) rfl wr5.heap.size wr5.heap.size 0 0 [] rfl hQf0.out (some ⟨gB, 0, none⟩) n5 c5 Z2 rfl hsf0.out (by omega) hEf0.out.size ?_
       intro gf1 capf1 wf1 hQf1 hG
       have hEf1 := Lib.hid (hEf0.out.grown hG hEf0.out.size (fun q e => by cases e; exact Nat.le_refl _))
       obtain ⟨Nf1, hNf1⟩ : ∃ N, 0 + n5 = N := ⟨_, rfl⟩
       rw [hNf1] at hQf1 ⊢
       rw [List.nil_append] at hQf1
       replace hQf1 := Lib.hid hQf1
       have hsf1 := Lib.hid (hy.out.below hEf1.out)
       clear hG hQf0 hsf0 hEf0)
    | (with_reducible refine append_row (o := ⟨some 75, _, _, _, _, _⟩) (L := 256) Try.underlying27 L.info8 (by omega) rfl (.tmp 73) (.tmp 74) rfl wr5.heap.size gf1 Nf1 capf1 Z2 rfl hQf1.out Ay 4 cy [1, 121, 0, 0] rfl hsf1.out (by omega) hEf1.out.size ?_
       intro gf2 capf2 wf2 hQf2 hG
       have hEf2 := Lib.hid (hEf1.out.grown hG hEf1.out.size (fun q e => by cases e; exact hQf1.out.has.1))
       obtain ⟨Nf2, hNf2⟩ : ∃ N, Nf1 + 4 = N := ⟨_, rfl⟩
       rw [hNf2] at hQf2 ⊢
       replace hQf2 := Lib.hid hQf2
       have hsf2 := Lib.hid (hp.out.below hEf2.out)
       clear hG hQf1 hsf1 hEf1)
    | (with_reducible refine append_row (o := ⟨some 78, _, _, _, _, _⟩) (L := 256) Try.underlying27 L.info8 (by omega) rfl (.tmp 76) (.tmp 77) rfl wr5.heap.size gf2 Nf2 capf2 (Z2 ++ [1, 121, 0, 0]) rfl hQf2.out (some ⟨gp, 0, none⟩) (4 * 1) cp LP rfl hsf2.out (by omega) hEf2.out.size ?_
       intro gf3 capf3 wf3 hQf3 hG
       have hEf3 := Lib.hid (hEf2.out.grown hG hEf2.out.size (fun q e => by cases e; exact hQf2.out.has.1))
       obtain ⟨Nf3, hNf3⟩ : ∃ N, Nf2 + (4 * 1) = N := ⟨_, rfl⟩
       rw [hNf3] at hQf3 ⊢
       replace hQf3 := Lib.hid hQf3
       have hsf3 := Lib.hid (hx.out.below hEf3.out)
       clear hG hQf2 hsf2 hEf2)
    | (with_reducible refine append_row (o := ⟨some 80, _, _, _, _, _⟩) (L := 256) Try.underlying27 L.info8 (by omega) rfl (.tmp 78) (.tmp 79) rfl wr5.heap.size gf3 Nf3 capf3 ((Z2 ++ [1, 121, 0, 0]) ++ LP) rfl hQf3.out Ax 4 cx [1, 120, 0, 0] rfl hsf3.out (by omega) hEf3.out.size ?_
       intro gf4 capf4 wf4 hQf4 hG
       have hEf4 := Lib.hid (hEf3.out.grown hG hEf3.out.size (fun q e => by cases e; exact hQf3.out.has.1))
       obtain ⟨Nf4, hNf4⟩ : ∃ N, Nf3 + 4 = N := ⟨_, rfl⟩
       rw [hNf4] at hQf4 ⊢
       replace hQf4 := Lib.hid hQf4
       have hsf4 := Lib.hid (hp.out.below hEf4.out)
       clear hG hQf3 hsf3 hEf3)
    | (with_reducible refine append_row (o := ⟨some 82, _, _, _, _, _⟩) (L := 256) Try.underlying27 L.info8 (by omega) rfl (.tmp 80) (.tmp 81) rfl wr5.heap.size gf4 Nf4 capf4 (((Z2 ++ [1, 121, 0, 0]) ++ LP) ++ [1, 120, 0, 0]) rfl hQf4.out (some ⟨gp, 0, none⟩) (4 * 1) cp LP rfl hsf4.out (by omega) hEf4.out.size ?_
       intro gf5 capf5 wf5 hQf5 hG
       have hEf5 := Lib.hid (hEf4.out.grown hG hEf4.out.size (fun q e => by cases e; exact hQf4.out.has.1))
       obtain ⟨Nf5, hNf5⟩ : ∃ N, Nf4 + (4 * 1) = N := ⟨_, rfl⟩
       rw [hNf5] at hQf5 ⊢
       replace hQf5 := Lib.hid hQf5
       clear hG hQf4 hsf4 hEf4
       have hFa := Lib.hid (hQf5.out.rw (L := 256) hF5.out)
       replace hB := Lib.hid (hB.out.trans (hEf5.out.mono hB.out.size))
       replace hO := Lib.hid (hO.out.below hEf5.out)
       replace hRi := Lib.hid (hRi.out.below hEf5.out)
       clear hQf5 hEf5 hb hx hy hp)
    | fail)
  have hN5 : Nr5 = ((((Z2 ++ [1, 120, 0, 0]) ++ LP) ++ [1, 121, 0, 0]) ++ LP).length := hRi.out.len.symm
  have hN6 : Nr5 ≤ 1000 ∧ 16 ≤ Nr5 := by omega
  replace T3 := Lib.hid (T3.out (Nr5 - 1) (by omega))
  clear hN5
  refine (Fi.take_any hRi.out (by omega)).mono ?_; rintro r w10 ⟨A10, n10, c10, B10, m10, d10, C10, k10, f10, rfl, hW10, hS10, hY10, hE⟩
  obtain ⟨z1, hz1⟩ : ∃ z, Fi.tE (Fi.take ((((Z2 ++ [1, 120, 0, 0]) ++ LP) ++ [1, 121, 0, 0]) ++ LP)) = z := ⟨_, rfl⟩
  rw [hz1]
  replace hz1 := Lib.hid hz1
  have hA := ((Kept.refl w10).alloc #[.slice A10 n10 c10, .slice B10 m10 d10, .slice C10 k10 f10] 26).below
  have hO10 := Lib.hid (Has.new #[.slice A10 n10 c10, .slice B10 m10 d10, .slice C10 k10 f10] 26 w10)
  have hBx := hB.out.trans (hE.mono hB.out.size)
  replace hB := Lib.hid (hBx.trans (hA.mono hBx.size))
  replace hW10 := Lib.hid (hW10.below hA)
  replace hS10 := Lib.hid (hS10.below hA)
  replace hY10 := Lib.hid (hY10.below hA)
  replace hO := Lib.hid ((hO.out.below hE).below hA)
  replace hRi := Lib.hid ((hRi.out.below hE).below hA)
  replace hFa := Lib.hid ((hFa.out.below hE).below hA)
  clear hE hA hBx
  clear hW10 hS10
  go_wp2_with (fail)
  generalize hwG : w10.alloc (.cells #[.slice A10 n10 c10, .slice B10 m10 d10, .slice C10 k10 f10] 26) = w10b at *
  clear hwG
  refine (Fi.take_any hFa.out (by omega)).mono ?_; rintro r w11 ⟨A11, n11, c11, B11, m11, d11, C11, k11, f11, rfl, hW11, hS11, hY11, hE⟩
  rw [T2.out]
  rw [show Fi.tE (.error 6) = 6 from rfl]
  have hA := ((Kept.refl w11).alloc #[.slice A11 n11 c11, .slice B11 m11 d11, .slice C11 k11 f11] 26).below
  have hO11 := Lib.hid (Has.new #[.slice A11 n11 c11, .slice B11 m11 d11, .slice C11 k11 f11] 26 w11)
  have hBx := hB.out.trans (hE.mono hB.out.size)
  replace hB := Lib.hid (hBx.trans (hA.mono hBx.size))
  replace hW11 := Lib.hid (hW11.below hA)
  replace hS11 := Lib.hid (hS11.below hA)
  replace hY11 := Lib.hid (hY11.below hA)
  replace hO := Lib.hid ((hO.out.below hE).below hA)
  replace hRi := Lib.hid ((hRi.out.below hE).below hA)
  replace hO10 := Lib.hid ((hO10.out.below hE).below hA)
  replace hY10 := Lib.hid ((hY10.out.below hE).below hA)
  clear hE hA hBx
  clear hW11 hS11 hY11 hO11
  have hCu := Lib.hid (hRi.out.take (Nr5 - 1) (by omega))
  have hNc : (Nr5 : Int) - 1 = ((Nr5 - 1 : Nat) : Int) := by omega
  have hNc2 : Nr5 - 1 ≤ capr5 := by have := hRi.out.le; omega
  obtain ⟨M5, hM5⟩ : ∃ M, Nr5 - 1 = M := ⟨_, rfl⟩
  rw [hM5] at hCu hNc hNc2 T3
  clear hRi
  go_wp2_with (fail)
  generalize hwG : w11.alloc (.cells #[.slice A11 n11 c11, .slice B11 m11 d11, .slice C11 k11 f11] 26) = w11b at *
  clear hwG
  refine (Fi.take_any hCu.out (by omega)).mono ?_; rintro r w12 ⟨A12, n12, c12, B12, m12, d12, C12, k12, f12, rfl, hW12, hS12, hY12, hE⟩
  rw [T3.out]
  rw [show Fi.tE (.error 3) = 3 from rfl]
  have hA := ((Kept.refl w12).alloc #[.slice A12 n12 c12, .slice B12 m12 d12, .slice C12 k12 f12] 26).below
  have hO12 := Lib.hid (Has.new #[.slice A12 n12 c12, .slice B12 m12 d12, .slice C12 k12 f12] 26 w12)
  have hBx := hB.out.trans (hE.mono hB.out.size)
  replace hB := Lib.hid (hBx.trans (hA.mono hBx.size))
  replace hW12 := Lib.hid (hW12.below hA)
  replace hS12 := Lib.hid (hS12.below hA)
  replace hY12 := Lib.hid (hY12.below hA)
  replace hO := Lib.hid ((hO.out.below hE).below hA)
  replace hO10 := Lib.hid ((hO10.out.below hE).below hA)
  replace hY10 := Lib.hid ((hY10.out.below hE).below hA)
  clear hE hA hBx
  clear hW12 hS12 hY12 hO12 hCu
  replace hz1 := hz1.out
  by_cases d1 : a1 % 4 = 0
  · have e1 : (a1 % 4 == 0) = true := by simpa using d1
    by_cases d2 : a1 ≤ 4 * (W.length : Int)
    · have hy10 := hY10.out
      rw [T1.out, if_pos (if_pos ⟨d1, d2⟩)] at hz1 hy10
      have hz : z1 = 0 := hz1.symm
      have hk : k10 = 2 := hy10.len.symm
      subst hz hk
      clear hz1
      have o0 := hO.out.cell 0 (.slice (some ⟨gW, 0, none⟩) W.length cW) rfl
      have p2 := hO10.out.cell 2 (.slice C10 2 f10) rfl
      go_wp2
      go_ret
      exact ⟨rfl, hB.out⟩
    · rw [T1.out, if_neg (by rw [if_neg (fun q => d2 q.2)]; decide)] at hz1
      have hz : z1 = 6 := hz1.symm
      subst hz
      clear hz1
      have o0 := hO.out.cell 0 (.slice (some ⟨gW, 0, none⟩) W.length cW) rfl
      have p2 := hO10.out.cell 2 (.slice C10 k10 f10) rfl
      go_wp2
      go_ret
      exact ⟨rfl, hB.out⟩
  · have e1 : (a1 % 4 == 0) = false := by simpa using d1
    rw [T1.out, if_neg (by rw [if_neg (fun q => d1 q.1)]; decide)] at hz1
    have hz : z1 = 6 := hz1.symm
    subst hz
    clear hz1
    have o0 := hO.out.cell 0 (.slice (some ⟨gW, 0, none⟩) W.length cW) rfl
    have p2 := hO10.out.cell 2 (.slice C10 k10 f10) rfl
    go_wp2
    go_ret
    exact ⟨rfl, hB.out⟩
end Go.Proofs.Ytmdknjfhdmigdaa
