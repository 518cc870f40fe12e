/-
  The walk of LoadAll.
-/
import Derived.Test.YtpfgmfiegnkocaaM17
namespace Go.Proofs.Ytpfgmfiegnkocaa
open Go.RowKit
set_option linter.unusedVariables false
set_option linter.unusedSimpArgs false
set_option maxRecDepth 100000
set_option maxHeartbeats 8000000 in
set_option maxRecDepth 100000 in
theorem walk_all (w : World) (P B C : Option Addr) (n c m d k e : Nat) (ws ss : List Int) (ys : List Ob.Y) (hW : Wo w P n c ws) (hS : In w B m d ss) (hY : Sy w C k e ys) (hsz : ∀ y ∈ ys, y.1.size ≤ 9223372036854775807) (bb mm : Int) :
    Calls Try.prog 3 #[.agg #[.slice P n c, .slice B m d, .slice C k e], .int .i64 bb, .int .i64 mm] w fun e w' => e = .returned (.bool true) ∧ Below w.heap.size w w' := by
  have hO := Lib.hid (Has.new #[.slice P n c, .slice B m d, .slice C k e] 26 w)
  have hB := ((Kept.refl w).alloc #[.slice P n c, .slice B m d, .slice C k e] 26).below
  have CF := fun (v : World) (hb : Below w.heap.size w v) => Ob.few_any (hW.below hb) (hS.below hb) (hY.below hb) hsz
  have hX := hW.take (min n 30) (by omega)
  have hXs := hS.take (min m 30) (by omega)
  have hQz := Ob.cuts_size ys (min k 12)
  have hX30 : min n 30 ≤ 30 := by omega
  generalize ws.take (min n 30) = xs at *
  generalize ss.take (min m 30) = xt at *
  generalize Ob.cuts ys (min k 12) = xy at *
  generalize min n 30 = n1 at *
  generalize min m 30 = m1 at *
  generalize min k 12 = k1 at *
  clear hW hS hY hsz
  have CI := fun (v : World) (C1 : Option Addr) (e1 : Nat) (h1 : Wo v P n1 c xs) (h2 : In v B m1 d xt) (h3 : Sy v C1 k1 e1 xy) => Lo.image_any h1 h2 h3 hQz bb
  have CR := fun (v : World) (C1 : Option Addr) (e1 : Nat) (h1 : Wo v P n1 c xs) (h2 : In v B m1 d xt) (h3 : Sy v C1 k1 e1 xy) => Lo.rimage_any h1 h2 h3 hQz bb
  have CM := fun (v : World) (C1 : Option Addr) (e1 : Nat) (h1 : Wo v P n1 c xs) (h2 : In v B m1 d xt) (h3 : Sy v C1 k1 e1 xy) => Lo.machine_any h1 h2 h3 hQz bb mm (Ws.empty v) (by omega)
  have CY := fun (v : World) (C1 : Option Addr) (e1 : Nat) (h1 : Wo v P n1 c xs) (h2 : In v B m1 d xt) (h3 : Sy v C1 k1 e1 xy) => Lo.rmachine_any h1 h2 h3 hQz bb mm (Ws.empty v) (by omega)
  generalize Lo.iE xs xt xy bb = ei at *
  generalize Lo.iW xs xt xy bb = V at *
  generalize Lo.mE xs xt xy bb mm = em at *
  generalize Lo.st xs xt bb mm [] = st at *
  replace CF := Lib.hid CF
  replace CI := Lib.hid CI
  replace CR := Lib.hid CR
  replace CM := Lib.hid CM
  replace CY := Lib.hid CY
  replace hX := Lib.hid hX
  replace hXs := Lib.hid hXs
  clear hQz
  have ei0 : (ei == ei) = true := by simp
  have ei1 : (ei != ei) = false := by simp
  have em0 : (em == em) = true := by simp
  have em1 : (em != em) = false := by simp
  go_enter Try.func3, Try.ntmps3
  go_wp2_with (fail)
  generalize w.alloc (.cells #[.slice P n c, .slice B m d, .slice C k e] 26) = w1 at *
  refine (Lo.shown_any w1).mono ?_; rintro r w2 ⟨rfl, hE⟩
  replace hB := Lib.hid (hB.trans (hE.mono hB.size))
  replace hO := Lib.hid (hO.out.below hE)
  clear hE
  go_wp2_with (first
    | (with_reducible refine load_has (o := ⟨some 18, _, _, _, _, _⟩) rfl 26 (.tmp 3) rfl w.heap.size rfl hO.out Try.underlying26 rfl (Ob.info26 _ _ _) ?_)
    | fail)
  refine (CF.out _ hB.out).mono ?_; rintro r w3 ⟨C1, e1, rfl, hQ1, hE⟩
  replace hB := Lib.hid (hB.out.trans (hE.mono hB.out.size))
  replace hO := Lib.hid (hO.out.below hE)
  have hQ := Lib.hid hQ1.sy
  clear hQ1
  skip
  clear hE
  go_wp2_with (fail)
  refine (CI.out _ C1 e1 (hX.out.below hB.out) (hXs.out.below hB.out) hQ.out).mono ?_; rintro r w4 ⟨A4, n4, c4, rfl, hP, hE⟩
  replace hB := Lib.hid (hB.out.trans (hE.mono hB.out.size))
  replace hO := Lib.hid (hO.out.below hE)
  replace hP := Lib.hid hP.rg
  clear hE hQ CI
  go_wp2_with (first
    | (with_reducible refine load_has (o := ⟨some 25, _, _, _, _, _⟩) rfl 26 (.tmp 3) rfl w.heap.size rfl hO.out Try.underlying26 rfl (Ob.info26 _ _ _) ?_)
    | fail)
  refine (CF.out _ hB.out).mono ?_; rintro r w5 ⟨C2, e2, rfl, hQ2, hE⟩
  replace hB := Lib.hid (hB.out.trans (hE.mono hB.out.size))
  replace hO := Lib.hid (hO.out.below hE)
  have hQ := Lib.hid hQ2.sy
  clear hQ2
  replace hP := Lib.hid (hP.out.below hE)
  clear hE
  go_wp2_with (fail)
  refine (CR.out _ C2 e2 (hX.out.below hB.out) (hXs.out.below hB.out) hQ.out).mono ?_; rintro r w6 ⟨A6, n6, c6, rfl, hR, hE⟩
  replace hB := Lib.hid (hB.out.trans (hE.mono hB.out.size))
  replace hO := Lib.hid (hO.out.below hE)
  replace hP := Lib.hid (hP.out.below hE)
  replace hR := Lib.hid hR.rg
  clear hE hQ CR
  go_wp2_with (first
    | (with_reducible refine load_has (o := ⟨some 32, _, _, _, _, _⟩) rfl 26 (.tmp 3) rfl w.heap.size rfl hO.out Try.underlying26 rfl (Ob.info26 _ _ _) ?_)
    | fail)
  refine (CF.out _ hB.out).mono ?_; rintro r w7 ⟨C3, e3, rfl, hQ3, hE⟩
  replace hB := Lib.hid (hB.out.trans (hE.mono hB.out.size))
  replace hO := Lib.hid (hO.out.below hE)
  have hQ := Lib.hid hQ3.sy
  clear hQ3
  replace hP := Lib.hid (hP.out.below hE)
  replace hR := Lib.hid (hR.out.below hE)
  clear hE
  go_wp2_with (fail)
  refine (CM.out _ C3 e3 (hX.out.below hB.out) (hXs.out.below hB.out) hQ.out).mono ?_; rintro r w8 hM
  clear CM hQ
  by_cases cm : em = 0
  · subst cm
    obtain ⟨B1, rfl, hL⟩ := hM.1 rfl
    have hE := hL.below
    replace hB := Lib.hid (hB.out.trans (hE.mono hB.out.size))
    replace hO := Lib.hid (hO.out.below hE)
    replace hP := Lib.hid (hP.out.below hE)
    replace hR := Lib.hid (hR.out.below hE)
    replace hL := Lib.hid hL
    clear hE hM
    go_wp2_with (first
      | (with_reducible refine load_has (o := ⟨some 40, _, _, _, _, _⟩) rfl 26 (.tmp 3) rfl w.heap.size rfl hO.out Try.underlying26 rfl (Ob.info26 _ _ _) ?_)
      | fail)
    refine (CF.out _ hB.out).mono ?_; rintro r w9 ⟨C4, e4, rfl, hQ4, hE⟩
    replace hB := Lib.hid (hB.out.trans (hE.mono hB.out.size))
    replace hO := Lib.hid (hO.out.below hE)
    have hQ := Lib.hid hQ4.sy
    clear hQ4
    replace hP := Lib.hid (hP.out.below hE)
    replace hR := Lib.hid (hR.out.below hE)
    replace hL := Lib.hid (hL.out.keep hE)
    clear hE
    go_wp2_with (fail)
    refine (CY.out _ C4 e4 (hX.out.below hB.out) (hXs.out.below hB.out) hQ.out).mono ?_; rintro r w10 hM
    obtain ⟨E1, rfl, hN⟩ := hM.1 rfl
    have hE := hN.below
    replace hB := Lib.hid (hB.out.trans (hE.mono hB.out.size))
    replace hP := Lib.hid (hP.out.below hE)
    replace hR := Lib.hid (hR.out.below hE)
    replace hL := Lib.hid (hL.out.keep hE)
    replace hN := Lib.hid hN
    clear hE hM CY hQ hO hX hXs CF
    go_wp2_with (fail)
    refine (Ch.same5_any hP.out hR.out).mono ?_; rintro r v1 ⟨rfl, hE⟩
    rw [decide_eq_true rfl]
    replace hB := Lib.hid (hB.out.trans (hE.mono hB.out.size))
    replace hL := Lib.hid (hL.out.keep hE)
    replace hN := Lib.hid (hN.out.keep hE)
    clear hE hP hR
    go_wp2_with (fail)
    refine (Lo.regs_any bb mm v1).mono ?_; rintro r v2 ⟨rfl, hK⟩
    replace hB := Lib.hid (hB.out.trans (hK.below.mono hB.out.size))
    replace hL := Lib.hid (hL.out.keep hK.below)
    replace hN := Lib.hid (hN.out.keep hK.below)
    clear hK
    go_wp2_with (fail)
    refine (Lo.rregs_any bb mm v2).mono ?_; rintro r v3 ⟨rfl, hK⟩
    replace hB := Lib.hid (hB.out.trans (hK.below.mono hB.out.size))
    replace hL := Lib.hid (hL.out.keep hK.below)
    replace hN := Lib.hid (hN.out.keep hK.below)
    clear hK
    generalize Lo.regs bb mm = rg at *
    go_upto_region 10 with (first
      | (refine want_exec (o := ⟨some 79, _, _, _, _, _⟩) rfl (Lo.exec_neq (.tmp 75) (.tmp 78) rfl rg rfl rfl) ?_)
      | fail)
    obtain ⟨F1, hL1, hLf, hLb⟩ := hL.out
    obtain ⟨G1, ⟨D1, D2, ai, ni, ci, ao, no, co, hN1⟩, hNf, hNb⟩ := hN.out
    have hS0 := Lib.hid (show Mac F1 B1 st v3.drew ∧ RMacAt G1 E1 st D1 D2 ai ni ci ao no co v3.drew ∧ Below w.heap.size w v3.drew from ⟨hL1.kept (Kept.refl _).drew, hN1.kept (Kept.refl _).drew, hB.out.drew⟩)
    clear hL hN hL1 hLf hLb hN1 hNf hNb hB
    refine wp_region_held_drew (S := fun wz => Mac F1 B1 st wz ∧ RMacAt G1 E1 st D1 D2 ai ni ci ao no co wz ∧ Below w.heap.size w wz) (by kernel_rfl) ?_ (fun hHeld => ?_)
    · exact hS0.out
    refine wpAnyH_take (i := 0) (oi := { dst := some 87, op := Op.move (Operand.tmp 12), type := 32, pos := "law.go:49", after := #[], guard := none }) (v := ?_) rfl (by kernel_rfl) (by kernel_rfl) (by kernel_rfl) (fun _ _ _ h => h) (Or.inl ⟨rfl, ?_⟩) hHeld ?_
    rotate_left
    · (intro wz hSw; (try dsimp only at hSw); have p0 : World.cell? wz ⟨E1, 0, none⟩ = some (.pointer (some ⟨D1, 0, none⟩)) := hSw.2.1.box.cell 0 _ rfl; have p22 : World.cell? wz ⟨E1, 22, none⟩ = some (.int .u32 st.pc) := hSw.2.1.box.cell 22 _ rfl; have p23 : World.cell? wz ⟨E1, 23, none⟩ = some (.int .i64 st.st) := hSw.2.1.box.cell 23 _ rfl; clear hSw; go_simp; try with_reducible rfl)
    try simp only [Act.put, List.setIfInBounds_toArray, List.set_cons_zero, List.set_cons_succ]
    refine wpAnyH_take (i := 2) (oi := { dst := some 89, op := Op.move (Operand.tmp 14), type := 35, pos := "law.go:49", after := #[], guard := none }) (v := ?_) rfl (by kernel_rfl) (by kernel_rfl) (by kernel_rfl) (fun _ _ _ h => h) (Or.inl ⟨rfl, ?_⟩) hHeld ?_
    rotate_left
    · (intro wz hSw; (try dsimp only at hSw); have p0 : World.cell? wz ⟨E1, 0, none⟩ = some (.pointer (some ⟨D1, 0, none⟩)) := hSw.2.1.box.cell 0 _ rfl; have p22 : World.cell? wz ⟨E1, 22, none⟩ = some (.int .u32 st.pc) := hSw.2.1.box.cell 22 _ rfl; have p23 : World.cell? wz ⟨E1, 23, none⟩ = some (.int .i64 st.st) := hSw.2.1.box.cell 23 _ rfl; clear hSw; go_simp; try with_reducible rfl)
    try simp only [Act.put, List.setIfInBounds_toArray, List.set_cons_zero, List.set_cons_succ]
    refine wpAnyH_take (i := 3) (oi := { dst := some 90, op := Op.nilCheck (Operand.tmp 89), type := 0, pos := "law.go:49", after := #[{ on := 2, ground := Ground.data }], guard := none }) (v := ?_) rfl (by kernel_rfl) (by kernel_rfl) (by kernel_rfl) (fun _ _ _ h => h) (Or.inl ⟨rfl, ?_⟩) hHeld ?_
    rotate_left
    · (intro wz hSw; (try dsimp only at hSw); have p0 : World.cell? wz ⟨E1, 0, none⟩ = some (.pointer (some ⟨D1, 0, none⟩)) := hSw.2.1.box.cell 0 _ rfl; have p22 : World.cell? wz ⟨E1, 22, none⟩ = some (.int .u32 st.pc) := hSw.2.1.box.cell 22 _ rfl; have p23 : World.cell? wz ⟨E1, 23, none⟩ = some (.int .i64 st.st) := hSw.2.1.box.cell 23 _ rfl; clear hSw; go_simp; try with_reducible rfl)
    try simp only [Act.put, List.setIfInBounds_toArray, List.set_cons_zero, List.set_cons_succ]
    refine wpAnyH_take (i := 4) (oi := { dst := some 91, op := Op.fieldAddr 47 (Operand.tmp 90) 0, type := 0, pos := "law.go:49", after := #[{ on := 3, ground := Ground.data }], guard := none }) (v := ?_) rfl (by kernel_rfl) (by kernel_rfl) (by kernel_rfl) (fun _ _ _ h => h) (Or.inl ⟨rfl, ?_⟩) hHeld ?_
    rotate_left
    · (intro wz hSw; (try dsimp only at hSw); have p0 : World.cell? wz ⟨E1, 0, none⟩ = some (.pointer (some ⟨D1, 0, none⟩)) := hSw.2.1.box.cell 0 _ rfl; have p22 : World.cell? wz ⟨E1, 22, none⟩ = some (.int .u32 st.pc) := hSw.2.1.box.cell 22 _ rfl; have p23 : World.cell? wz ⟨E1, 23, none⟩ = some (.int .i64 st.st) := hSw.2.1.box.cell 23 _ rfl; clear hSw; go_simp; try with_reducible rfl)
    try simp only [Act.put, List.setIfInBounds_toArray, List.set_cons_zero, List.set_cons_succ]
    refine wpAnyH_take (i := 5) (oi := { dst := some 92, op := Op.load 45 (Operand.tmp 91), type := 45, pos := "law.go:49", after := #[{ on := 4, ground := Ground.data }], guard := none }) (v := ?_) rfl (by kernel_rfl) (by kernel_rfl) (by kernel_rfl) (fun _ _ _ h => h) (Or.inl ⟨rfl, ?_⟩) hHeld ?_
    rotate_left
    · (intro wz hSw; (try dsimp only at hSw); have p0 : World.cell? wz ⟨E1, 0, none⟩ = some (.pointer (some ⟨D1, 0, none⟩)) := hSw.2.1.box.cell 0 _ rfl; have p22 : World.cell? wz ⟨E1, 22, none⟩ = some (.int .u32 st.pc) := hSw.2.1.box.cell 22 _ rfl; have p23 : World.cell? wz ⟨E1, 23, none⟩ = some (.int .i64 st.st) := hSw.2.1.box.cell 23 _ rfl; clear hSw; go_simp; try with_reducible rfl)
    try simp only [Act.put, List.setIfInBounds_toArray, List.set_cons_zero, List.set_cons_succ]
    refine wpAnyH_ready (rs := [1]) (by kernel_rfl) (by simp) ?_
    refine AllReadyH.cons (o := { dst := some 88, op := Op.call { callee := Callee.value (Operand.func 16), args := #[Operand.tmp 87], argTypes := #[32] }, type := 22, pos := "law.go:49", after := #[{ on := 0, ground := Ground.data }], guard := none }) rfl (fun K hK => ?_) (AllReadyH.nil)
    go_simp
    go_at_call 16
    refine (Lo.words_mac hHeld.1).mono ?_
    rintro e wd ⟨gx, rfl, px1, px3⟩
    have hN := (show (fun wz => Mac F1 B1 st wz ∧ RMacAt G1 E1 st D1 D2 ai ni ci ao no co wz ∧ Below w.heap.size w wz) _ from ⟨hHeld.1.turn (Lo.t0 px3.below) (fun _ _ h => h), Lo.keepR hHeld.2.1 px3.below, hHeld.2.2.trans (px3.below.mono hHeld.2.2.size)⟩)
    clear hHeld
    refine hK.out _ _ hN (fun hHeld => ?_)
    clear hK K hN
    try simp only [Act.put, List.setIfInBounds_toArray, List.set_cons_zero, List.set_cons_succ]
    refine wpAnyH_ready (rs := [6]) (by kernel_rfl) (by simp) ?_
    refine AllReadyH.cons (o := { dst := some 93, op := Op.call { callee := Callee.value (Operand.func 17), args := #[Operand.tmp 92], argTypes := #[45] }, type := 22, pos := "law.go:49", after := #[{ on := 5, ground := Ground.data }, { on := 1, ground := Ground.chain }], guard := none }) rfl (fun K hK => ?_) (AllReadyH.nil)
    go_simp
    go_at_call 17
    refine (R.words_any hHeld.2.1.mem).mono ?_
    rintro e we ⟨gy, cy, rfl, py1, py2⟩
    have px4 := px1.below py2
    have hN := (show (fun wz => Mac F1 B1 st wz ∧ RMacAt G1 E1 st D1 D2 ai ni ci ao no co wz ∧ Below w.heap.size w wz) _ from ⟨hHeld.1.turn (Lo.t0 py2) (fun _ _ h => h), Lo.keepR hHeld.2.1 py2, hHeld.2.2.trans (py2.mono hHeld.2.2.size)⟩)
    clear hHeld
    refine hK.out _ _ hN (fun hHeld => ?_)
    clear hK K hN
    try simp only [Act.put, List.setIfInBounds_toArray, List.set_cons_zero, List.set_cons_succ]
    refine wpAnyH_ready (rs := [7]) (by kernel_rfl) (by simp) ?_
    refine AllReadyH.cons (o := { dst := some 94, op := Op.call { callee := Callee.value (Operand.func 13), args := #[Operand.tmp 88, Operand.tmp 93], argTypes := #[22, 22] }, type := 4, pos := "law.go:49", after := #[{ on := 1, ground := Ground.data }, { on := 6, ground := Ground.data }, { on := 6, ground := Ground.chain }], guard := none }) rfl (fun K hK => ?_) (AllReadyH.nil)
    have CS := Ch.same5_any px4.rg py1.rw.rg
    rw [decide_eq_true (rfl : st.ws = st.ws)] at CS
    go_simp
    go_at_call 13
    refine (CS).mono ?_
    rintro e wf ⟨rfl, hKf⟩
    clear CS
    have hN := (show (fun wz => Mac F1 B1 st wz ∧ RMacAt G1 E1 st D1 D2 ai ni ci ao no co wz ∧ Below w.heap.size w wz) _ from ⟨hHeld.1.turn (Lo.t0 hKf) (fun _ _ h => h), Lo.keepR hHeld.2.1 hKf, hHeld.2.2.trans (hKf.mono hHeld.2.2.size)⟩)
    clear hHeld
    refine hK.out _ _ hN (fun hHeld => ?_)
    clear hK K hN
    try simp only [Act.put, List.setIfInBounds_toArray, List.set_cons_zero, List.set_cons_succ]
    refine wpAnyH_take (i := 8) (oi := { dst := some 95, op := Op.move (Operand.tmp 94), type := 4, pos := "law.go:49", after := #[{ on := 7, ground := Ground.data }, { on := 7, ground := Ground.chain }], guard := none }) (v := ?_) rfl (by kernel_rfl) (by kernel_rfl) (by kernel_rfl) (fun _ _ _ h => h) (Or.inl ⟨rfl, ?_⟩) hHeld ?_
    rotate_left
    · (intro wz hSw; (try dsimp only at hSw); have p0 : World.cell? wz ⟨E1, 0, none⟩ = some (.pointer (some ⟨D1, 0, none⟩)) := hSw.2.1.box.cell 0 _ rfl; have p22 : World.cell? wz ⟨E1, 22, none⟩ = some (.int .u32 st.pc) := hSw.2.1.box.cell 22 _ rfl; have p23 : World.cell? wz ⟨E1, 23, none⟩ = some (.int .i64 st.st) := hSw.2.1.box.cell 23 _ rfl; clear hSw; go_simp; try with_reducible rfl)
    try simp only [Act.put, List.setIfInBounds_toArray, List.set_cons_zero, List.set_cons_succ]
    refine wpAnyH_take (i := 9) (oi := { dst := some 96, op := Op.move (Operand.tmp 12), type := 32, pos := "law.go:49", after := #[{ on := 8, ground := Ground.guard }], guard := some (8, true) }) (v := ?_) rfl (by kernel_rfl) (by kernel_rfl) (by kernel_rfl) (fun _ _ _ h => h) (Or.inl ⟨rfl, ?_⟩) hHeld ?_
    rotate_left
    · (intro wz hSw; (try dsimp only at hSw); have p0 : World.cell? wz ⟨E1, 0, none⟩ = some (.pointer (some ⟨D1, 0, none⟩)) := hSw.2.1.box.cell 0 _ rfl; have p22 : World.cell? wz ⟨E1, 22, none⟩ = some (.int .u32 st.pc) := hSw.2.1.box.cell 22 _ rfl; have p23 : World.cell? wz ⟨E1, 23, none⟩ = some (.int .i64 st.st) := hSw.2.1.box.cell 23 _ rfl; clear hSw; go_simp; try with_reducible rfl)
    try simp only [Act.put, List.setIfInBounds_toArray, List.set_cons_zero, List.set_cons_succ]
    refine wpAnyH_take (i := 11) (oi := { dst := some 98, op := Op.move (Operand.tmp 14), type := 35, pos := "law.go:49", after := #[{ on := 8, ground := Ground.guard }], guard := some (8, true) }) (v := ?_) rfl (by kernel_rfl) (by kernel_rfl) (by kernel_rfl) (fun _ _ _ h => h) (Or.inl ⟨rfl, ?_⟩) hHeld ?_
    rotate_left
    · (intro wz hSw; (try dsimp only at hSw); have p0 : World.cell? wz ⟨E1, 0, none⟩ = some (.pointer (some ⟨D1, 0, none⟩)) := hSw.2.1.box.cell 0 _ rfl; have p22 : World.cell? wz ⟨E1, 22, none⟩ = some (.int .u32 st.pc) := hSw.2.1.box.cell 22 _ rfl; have p23 : World.cell? wz ⟨E1, 23, none⟩ = some (.int .i64 st.st) := hSw.2.1.box.cell 23 _ rfl; clear hSw; go_simp; try with_reducible rfl)
    try simp only [Act.put, List.setIfInBounds_toArray, List.set_cons_zero, List.set_cons_succ]
    refine wpAnyH_take (i := 12) (oi := { dst := some 99, op := Op.nilCheck (Operand.tmp 98), type := 0, pos := "law.go:49", after := #[{ on := 11, ground := Ground.data }, { on := 8, ground := Ground.guard }], guard := some (8, true) }) (v := ?_) rfl (by kernel_rfl) (by kernel_rfl) (by kernel_rfl) (fun _ _ _ h => h) (Or.inl ⟨rfl, ?_⟩) hHeld ?_
    rotate_left
    · (intro wz hSw; (try dsimp only at hSw); have p0 : World.cell? wz ⟨E1, 0, none⟩ = some (.pointer (some ⟨D1, 0, none⟩)) := hSw.2.1.box.cell 0 _ rfl; have p22 : World.cell? wz ⟨E1, 22, none⟩ = some (.int .u32 st.pc) := hSw.2.1.box.cell 22 _ rfl; have p23 : World.cell? wz ⟨E1, 23, none⟩ = some (.int .i64 st.st) := hSw.2.1.box.cell 23 _ rfl; clear hSw; go_simp; try with_reducible rfl)
    try simp only [Act.put, List.setIfInBounds_toArray, List.set_cons_zero, List.set_cons_succ]
    refine wpAnyH_take (i := 13) (oi := { dst := some 100, op := Op.fieldAddr 47 (Operand.tmp 99) 1, type := 0, pos := "law.go:49", after := #[{ on := 12, ground := Ground.data }, { on := 8, ground := Ground.guard }], guard := some (8, true) }) (v := ?_) rfl (by kernel_rfl) (by kernel_rfl) (by kernel_rfl) (fun _ _ _ h => h) (Or.inl ⟨rfl, ?_⟩) hHeld ?_
    rotate_left
    · (intro wz hSw; (try dsimp only at hSw); have p0 : World.cell? wz ⟨E1, 0, none⟩ = some (.pointer (some ⟨D1, 0, none⟩)) := hSw.2.1.box.cell 0 _ rfl; have p22 : World.cell? wz ⟨E1, 22, none⟩ = some (.int .u32 st.pc) := hSw.2.1.box.cell 22 _ rfl; have p23 : World.cell? wz ⟨E1, 23, none⟩ = some (.int .i64 st.st) := hSw.2.1.box.cell 23 _ rfl; clear hSw; go_simp; try with_reducible rfl)
    try simp only [Act.put, List.setIfInBounds_toArray, List.set_cons_zero, List.set_cons_succ]
    refine wpAnyH_take (i := 14) (oi := { dst := some 101, op := Op.load 42 (Operand.tmp 100), type := 42, pos := "law.go:49", after := #[{ on := 13, ground := Ground.data }, { on := 8, ground := Ground.guard }], guard := some (8, true) }) (v := ?_) rfl (by kernel_rfl) (by kernel_rfl) (by kernel_rfl) (fun _ _ _ h => h) (Or.inl ⟨rfl, ?_⟩) hHeld ?_
    rotate_left
    · (intro wz hSw; refine Lo.exec_mid 42 (Operand.tmp 100) ?_ E1 1 ?_ (A.cells st.s) (X.rc_range hSw.2.1.box) Try.underlying42 rfl (A.info25 _) <;> rfl)
    try simp only [Act.put, List.setIfInBounds_toArray, List.set_cons_zero, List.set_cons_succ]
    refine wpAnyH_ready (rs := [10]) (by kernel_rfl) (by simp) ?_
    refine AllReadyH.cons (o := { dst := some 97, op := Op.call { callee := Callee.value (Operand.func 18), args := #[Operand.tmp 96], argTypes := #[32] }, type := 42, pos := "law.go:49", after := #[{ on := 9, ground := Ground.data }, { on := 8, ground := Ground.chain }, { on := 8, ground := Ground.guard }], guard := some (8, true) }) rfl (fun K hK => ?_) (AllReadyH.nil)
    go_simp
    go_at_call 18
    refine (regs_any hHeld.1).mono ?_
    rintro e wc ⟨rfl, hKc⟩
    have hN := (show (fun wz => Mac F1 B1 st wz ∧ RMacAt G1 E1 st D1 D2 ai ni ci ao no co wz ∧ Below w.heap.size w wz) _ from ⟨hHeld.1.turn (Lo.t0 hKc.below) (fun _ _ h => h), Lo.keepR hHeld.2.1 hKc.below, hHeld.2.2.trans (hKc.below.mono hHeld.2.2.size)⟩)
    clear hHeld
    refine hK.out _ _ hN (fun hHeld => ?_)
    clear hK K hN
    try simp only [Act.put, List.setIfInBounds_toArray, List.set_cons_zero, List.set_cons_succ]
    refine wpAnyH_take (i := 15) (oi := { dst := some 102, op := Op.binOp BinOp.eql 42 (Operand.tmp 97) (Operand.tmp 101) 42, type := 4, pos := "law.go:49", after := #[{ on := 10, ground := Ground.data }, { on := 14, ground := Ground.data }, { on := 8, ground := Ground.guard }], guard := some (8, true) }) (v := ?_) rfl (by kernel_rfl) (by kernel_rfl) (by kernel_rfl) (fun _ _ _ h => h) (Or.inl ⟨rfl, ?_⟩) hHeld ?_
    rotate_left
    · (intro wz hSw; refine exec_eq_regs (o := { dst := some 102, op := Op.binOp BinOp.eql 42 (Operand.tmp 97) (Operand.tmp 101) 42, type := 4, pos := "law.go:49", after := #[{ on := 10, ground := Ground.data }, { on := 14, ground := Ground.data }, { on := 8, ground := Ground.guard }], guard := some (8, true) }) (Operand.tmp 97) (Operand.tmp 101) ?_ st.s ?_ ?_ <;> rfl)
    try simp only [Act.put, List.setIfInBounds_toArray, List.set_cons_zero, List.set_cons_succ]
    refine wpAnyH_take (i := 16) (oi := { dst := some 103, op := Op.pick (Operand.tmp 95) (Operand.tmp 102) (Operand.const (Value.bool false)), type := 4, pos := "law.go:49", after := #[{ on := 8, ground := Ground.data }, { on := 15, ground := Ground.data }], guard := none }) (v := ?_) rfl (by kernel_rfl) (by kernel_rfl) (by kernel_rfl) (fun _ _ _ h => h) (Or.inl ⟨rfl, ?_⟩) hHeld ?_
    rotate_left
    · (intro wz hSw; (try dsimp only at hSw); have p0 : World.cell? wz ⟨E1, 0, none⟩ = some (.pointer (some ⟨D1, 0, none⟩)) := hSw.2.1.box.cell 0 _ rfl; have p22 : World.cell? wz ⟨E1, 22, none⟩ = some (.int .u32 st.pc) := hSw.2.1.box.cell 22 _ rfl; have p23 : World.cell? wz ⟨E1, 23, none⟩ = some (.int .i64 st.st) := hSw.2.1.box.cell 23 _ rfl; clear hSw; go_simp; try with_reducible rfl)
    try simp only [Act.put, List.setIfInBounds_toArray, List.set_cons_zero, List.set_cons_succ]
    refine wpAnyH_take (i := 17) (oi := { dst := some 104, op := Op.move (Operand.tmp 103), type := 4, pos := "law.go:49", after := #[{ on := 16, ground := Ground.data }, { on := 10, ground := Ground.chain }], guard := none }) (v := ?_) rfl (by kernel_rfl) (by kernel_rfl) (by kernel_rfl) (fun _ _ _ h => h) (Or.inl ⟨rfl, ?_⟩) hHeld ?_
    rotate_left
    · (intro wz hSw; (try dsimp only at hSw); have p0 : World.cell? wz ⟨E1, 0, none⟩ = some (.pointer (some ⟨D1, 0, none⟩)) := hSw.2.1.box.cell 0 _ rfl; have p22 : World.cell? wz ⟨E1, 22, none⟩ = some (.int .u32 st.pc) := hSw.2.1.box.cell 22 _ rfl; have p23 : World.cell? wz ⟨E1, 23, none⟩ = some (.int .i64 st.st) := hSw.2.1.box.cell 23 _ rfl; clear hSw; go_simp; try with_reducible rfl)
    try simp only [Act.put, List.setIfInBounds_toArray, List.set_cons_zero, List.set_cons_succ]
    refine wpAnyH_take (i := 18) (oi := { dst := some 105, op := Op.move (Operand.tmp 12), type := 32, pos := "law.go:49", after := #[{ on := 17, ground := Ground.guard }], guard := some (17, true) }) (v := ?_) rfl (by kernel_rfl) (by kernel_rfl) (by kernel_rfl) (fun _ _ _ h => h) (Or.inl ⟨rfl, ?_⟩) hHeld ?_
    rotate_left
    · (intro wz hSw; (try dsimp only at hSw); have p0 : World.cell? wz ⟨E1, 0, none⟩ = some (.pointer (some ⟨D1, 0, none⟩)) := hSw.2.1.box.cell 0 _ rfl; have p22 : World.cell? wz ⟨E1, 22, none⟩ = some (.int .u32 st.pc) := hSw.2.1.box.cell 22 _ rfl; have p23 : World.cell? wz ⟨E1, 23, none⟩ = some (.int .i64 st.st) := hSw.2.1.box.cell 23 _ rfl; clear hSw; go_simp; try with_reducible rfl)
    try simp only [Act.put, List.setIfInBounds_toArray, List.set_cons_zero, List.set_cons_succ]
    refine wpAnyH_take (i := 20) (oi := { dst := some 107, op := Op.move (Operand.tmp 14), type := 35, pos := "law.go:49", after := #[{ on := 17, ground := Ground.guard }], guard := some (17, true) }) (v := ?_) rfl (by kernel_rfl) (by kernel_rfl) (by kernel_rfl) (fun _ _ _ h => h) (Or.inl ⟨rfl, ?_⟩) hHeld ?_
    rotate_left
    · (intro wz hSw; (try dsimp only at hSw); have p0 : World.cell? wz ⟨E1, 0, none⟩ = some (.pointer (some ⟨D1, 0, none⟩)) := hSw.2.1.box.cell 0 _ rfl; have p22 : World.cell? wz ⟨E1, 22, none⟩ = some (.int .u32 st.pc) := hSw.2.1.box.cell 22 _ rfl; have p23 : World.cell? wz ⟨E1, 23, none⟩ = some (.int .i64 st.st) := hSw.2.1.box.cell 23 _ rfl; clear hSw; go_simp; try with_reducible rfl)
    try simp only [Act.put, List.setIfInBounds_toArray, List.set_cons_zero, List.set_cons_succ]
    refine wpAnyH_take (i := 21) (oi := { dst := some 108, op := Op.nilCheck (Operand.tmp 107), type := 0, pos := "law.go:49", after := #[{ on := 20, ground := Ground.data }, { on := 17, ground := Ground.guard }], guard := some (17, true) }) (v := ?_) rfl (by kernel_rfl) (by kernel_rfl) (by kernel_rfl) (fun _ _ _ h => h) (Or.inl ⟨rfl, ?_⟩) hHeld ?_
    rotate_left
    · (intro wz hSw; (try dsimp only at hSw); have p0 : World.cell? wz ⟨E1, 0, none⟩ = some (.pointer (some ⟨D1, 0, none⟩)) := hSw.2.1.box.cell 0 _ rfl; have p22 : World.cell? wz ⟨E1, 22, none⟩ = some (.int .u32 st.pc) := hSw.2.1.box.cell 22 _ rfl; have p23 : World.cell? wz ⟨E1, 23, none⟩ = some (.int .i64 st.st) := hSw.2.1.box.cell 23 _ rfl; clear hSw; go_simp; try with_reducible rfl)
    try simp only [Act.put, List.setIfInBounds_toArray, List.set_cons_zero, List.set_cons_succ]
    refine wpAnyH_take (i := 22) (oi := { dst := some 109, op := Op.fieldAddr 47 (Operand.tmp 108) 2, type := 0, pos := "law.go:49", after := #[{ on := 21, ground := Ground.data }, { on := 17, ground := Ground.guard }], guard := some (17, true) }) (v := ?_) rfl (by kernel_rfl) (by kernel_rfl) (by kernel_rfl) (fun _ _ _ h => h) (Or.inl ⟨rfl, ?_⟩) hHeld ?_
    rotate_left
    · (intro wz hSw; (try dsimp only at hSw); have p0 : World.cell? wz ⟨E1, 0, none⟩ = some (.pointer (some ⟨D1, 0, none⟩)) := hSw.2.1.box.cell 0 _ rfl; have p22 : World.cell? wz ⟨E1, 22, none⟩ = some (.int .u32 st.pc) := hSw.2.1.box.cell 22 _ rfl; have p23 : World.cell? wz ⟨E1, 23, none⟩ = some (.int .i64 st.st) := hSw.2.1.box.cell 23 _ rfl; clear hSw; go_simp; try with_reducible rfl)
    try simp only [Act.put, List.setIfInBounds_toArray, List.set_cons_zero, List.set_cons_succ]
    refine wpAnyH_take (i := 23) (oi := { dst := some 110, op := Op.load 39 (Operand.tmp 109), type := 39, pos := "law.go:49", after := #[{ on := 22, ground := Ground.data }, { on := 17, ground := Ground.guard }], guard := some (17, true) }) (v := ?_) rfl (by kernel_rfl) (by kernel_rfl) (by kernel_rfl) (fun _ _ _ h => h) (Or.inl ⟨rfl, ?_⟩) hHeld ?_
    rotate_left
    · (intro wz hSw; (try dsimp only at hSw); have p0 : World.cell? wz ⟨E1, 0, none⟩ = some (.pointer (some ⟨D1, 0, none⟩)) := hSw.2.1.box.cell 0 _ rfl; have p22 : World.cell? wz ⟨E1, 22, none⟩ = some (.int .u32 st.pc) := hSw.2.1.box.cell 22 _ rfl; have p23 : World.cell? wz ⟨E1, 23, none⟩ = some (.int .i64 st.st) := hSw.2.1.box.cell 23 _ rfl; clear hSw; go_simp; try with_reducible rfl)
    try simp only [Act.put, List.setIfInBounds_toArray, List.set_cons_zero, List.set_cons_succ]
    refine wpAnyH_ready (rs := [19]) (by kernel_rfl) (by simp) ?_
    refine AllReadyH.cons (o := { dst := some 106, op := Op.call { callee := Callee.value (Operand.func 19), args := #[Operand.tmp 105], argTypes := #[32] }, type := 39, pos := "law.go:49", after := #[{ on := 18, ground := Ground.data }, { on := 17, ground := Ground.chain }, { on := 17, ground := Ground.guard }], guard := some (17, true) }) rfl (fun K hK => ?_) (AllReadyH.nil)
    go_simp
    go_at_call 19
    refine (pc_any hHeld.1).mono ?_
    rintro e wb ⟨rfl, rfl⟩
    have hN := (show (fun wz => Mac F1 B1 st wz ∧ RMacAt G1 E1 st D1 D2 ai ni ci ao no co wz ∧ Below w.heap.size w wz) _ from hHeld)
    clear hHeld
    refine hK.out _ _ hN (fun hHeld => ?_)
    clear hK K hN
    try simp only [Act.put, List.setIfInBounds_toArray, List.set_cons_zero, List.set_cons_succ]
    refine wpAnyH_take (i := 24) (oi := { dst := some 111, op := Op.binOp BinOp.eql 39 (Operand.tmp 106) (Operand.tmp 110) 39, type := 4, pos := "law.go:49", after := #[{ on := 19, ground := Ground.data }, { on := 23, ground := Ground.data }, { on := 17, ground := Ground.guard }], guard := some (17, true) }) (v := ?_) rfl (by kernel_rfl) (by kernel_rfl) (by kernel_rfl) (fun _ _ _ h => h) (Or.inl ⟨rfl, ?_⟩) hHeld ?_
    rotate_left
    · (intro wz hSw; (try dsimp only at hSw); have p0 : World.cell? wz ⟨E1, 0, none⟩ = some (.pointer (some ⟨D1, 0, none⟩)) := hSw.2.1.box.cell 0 _ rfl; have p22 : World.cell? wz ⟨E1, 22, none⟩ = some (.int .u32 st.pc) := hSw.2.1.box.cell 22 _ rfl; have p23 : World.cell? wz ⟨E1, 23, none⟩ = some (.int .i64 st.st) := hSw.2.1.box.cell 23 _ rfl; clear hSw; go_simp; try with_reducible rfl)
    try simp only [Act.put, List.setIfInBounds_toArray, List.set_cons_zero, List.set_cons_succ]
    refine wpAnyH_take (i := 25) (oi := { dst := some 112, op := Op.pick (Operand.tmp 104) (Operand.tmp 111) (Operand.const (Value.bool false)), type := 4, pos := "law.go:49", after := #[{ on := 17, ground := Ground.data }, { on := 24, ground := Ground.data }], guard := none }) (v := ?_) rfl (by kernel_rfl) (by kernel_rfl) (by kernel_rfl) (fun _ _ _ h => h) (Or.inl ⟨rfl, ?_⟩) hHeld ?_
    rotate_left
    · (intro wz hSw; (try dsimp only at hSw); have p0 : World.cell? wz ⟨E1, 0, none⟩ = some (.pointer (some ⟨D1, 0, none⟩)) := hSw.2.1.box.cell 0 _ rfl; have p22 : World.cell? wz ⟨E1, 22, none⟩ = some (.int .u32 st.pc) := hSw.2.1.box.cell 22 _ rfl; have p23 : World.cell? wz ⟨E1, 23, none⟩ = some (.int .i64 st.st) := hSw.2.1.box.cell 23 _ rfl; clear hSw; go_simp; try with_reducible rfl)
    try simp only [Act.put, List.setIfInBounds_toArray, List.set_cons_zero, List.set_cons_succ]
    refine wpAnyH_take (i := 26) (oi := { dst := some 113, op := Op.move (Operand.tmp 112), type := 4, pos := "law.go:49", after := #[{ on := 25, ground := Ground.data }, { on := 19, ground := Ground.chain }], guard := none }) (v := ?_) rfl (by kernel_rfl) (by kernel_rfl) (by kernel_rfl) (fun _ _ _ h => h) (Or.inl ⟨rfl, ?_⟩) hHeld ?_
    rotate_left
    · (intro wz hSw; (try dsimp only at hSw); have p0 : World.cell? wz ⟨E1, 0, none⟩ = some (.pointer (some ⟨D1, 0, none⟩)) := hSw.2.1.box.cell 0 _ rfl; have p22 : World.cell? wz ⟨E1, 22, none⟩ = some (.int .u32 st.pc) := hSw.2.1.box.cell 22 _ rfl; have p23 : World.cell? wz ⟨E1, 23, none⟩ = some (.int .i64 st.st) := hSw.2.1.box.cell 23 _ rfl; clear hSw; go_simp; try with_reducible rfl)
    try simp only [Act.put, List.setIfInBounds_toArray, List.set_cons_zero, List.set_cons_succ]
    refine wpAnyH_take (i := 27) (oi := { dst := some 114, op := Op.move (Operand.tmp 12), type := 32, pos := "law.go:49", after := #[{ on := 26, ground := Ground.guard }], guard := some (26, true) }) (v := ?_) rfl (by kernel_rfl) (by kernel_rfl) (by kernel_rfl) (fun _ _ _ h => h) (Or.inl ⟨rfl, ?_⟩) hHeld ?_
    rotate_left
    · (intro wz hSw; (try dsimp only at hSw); have p0 : World.cell? wz ⟨E1, 0, none⟩ = some (.pointer (some ⟨D1, 0, none⟩)) := hSw.2.1.box.cell 0 _ rfl; have p22 : World.cell? wz ⟨E1, 22, none⟩ = some (.int .u32 st.pc) := hSw.2.1.box.cell 22 _ rfl; have p23 : World.cell? wz ⟨E1, 23, none⟩ = some (.int .i64 st.st) := hSw.2.1.box.cell 23 _ rfl; clear hSw; go_simp; try with_reducible rfl)
    try simp only [Act.put, List.setIfInBounds_toArray, List.set_cons_zero, List.set_cons_succ]
    refine wpAnyH_take (i := 29) (oi := { dst := some 116, op := Op.move (Operand.tmp 14), type := 35, pos := "law.go:49", after := #[{ on := 26, ground := Ground.guard }], guard := some (26, true) }) (v := ?_) rfl (by kernel_rfl) (by kernel_rfl) (by kernel_rfl) (fun _ _ _ h => h) (Or.inl ⟨rfl, ?_⟩) hHeld ?_
    rotate_left
    · (intro wz hSw; (try dsimp only at hSw); have p0 : World.cell? wz ⟨E1, 0, none⟩ = some (.pointer (some ⟨D1, 0, none⟩)) := hSw.2.1.box.cell 0 _ rfl; have p22 : World.cell? wz ⟨E1, 22, none⟩ = some (.int .u32 st.pc) := hSw.2.1.box.cell 22 _ rfl; have p23 : World.cell? wz ⟨E1, 23, none⟩ = some (.int .i64 st.st) := hSw.2.1.box.cell 23 _ rfl; clear hSw; go_simp; try with_reducible rfl)
    try simp only [Act.put, List.setIfInBounds_toArray, List.set_cons_zero, List.set_cons_succ]
    refine wpAnyH_take (i := 30) (oi := { dst := some 117, op := Op.nilCheck (Operand.tmp 116), type := 0, pos := "law.go:49", after := #[{ on := 29, ground := Ground.data }, { on := 26, ground := Ground.guard }], guard := some (26, true) }) (v := ?_) rfl (by kernel_rfl) (by kernel_rfl) (by kernel_rfl) (fun _ _ _ h => h) (Or.inl ⟨rfl, ?_⟩) hHeld ?_
    rotate_left
    · (intro wz hSw; (try dsimp only at hSw); have p0 : World.cell? wz ⟨E1, 0, none⟩ = some (.pointer (some ⟨D1, 0, none⟩)) := hSw.2.1.box.cell 0 _ rfl; have p22 : World.cell? wz ⟨E1, 22, none⟩ = some (.int .u32 st.pc) := hSw.2.1.box.cell 22 _ rfl; have p23 : World.cell? wz ⟨E1, 23, none⟩ = some (.int .i64 st.st) := hSw.2.1.box.cell 23 _ rfl; clear hSw; go_simp; try with_reducible rfl)
    try simp only [Act.put, List.setIfInBounds_toArray, List.set_cons_zero, List.set_cons_succ]
    refine wpAnyH_take (i := 31) (oi := { dst := some 118, op := Op.fieldAddr 47 (Operand.tmp 117) 3, type := 0, pos := "law.go:49", after := #[{ on := 30, ground := Ground.data }, { on := 26, ground := Ground.guard }], guard := some (26, true) }) (v := ?_) rfl (by kernel_rfl) (by kernel_rfl) (by kernel_rfl) (fun _ _ _ h => h) (Or.inl ⟨rfl, ?_⟩) hHeld ?_
    rotate_left
    · (intro wz hSw; (try dsimp only at hSw); have p0 : World.cell? wz ⟨E1, 0, none⟩ = some (.pointer (some ⟨D1, 0, none⟩)) := hSw.2.1.box.cell 0 _ rfl; have p22 : World.cell? wz ⟨E1, 22, none⟩ = some (.int .u32 st.pc) := hSw.2.1.box.cell 22 _ rfl; have p23 : World.cell? wz ⟨E1, 23, none⟩ = some (.int .i64 st.st) := hSw.2.1.box.cell 23 _ rfl; clear hSw; go_simp; try with_reducible rfl)
    try simp only [Act.put, List.setIfInBounds_toArray, List.set_cons_zero, List.set_cons_succ]
    refine wpAnyH_take (i := 32) (oi := { dst := some 119, op := Op.load 3 (Operand.tmp 118), type := 3, pos := "law.go:49", after := #[{ on := 31, ground := Ground.data }, { on := 26, ground := Ground.guard }], guard := some (26, true) }) (v := ?_) rfl (by kernel_rfl) (by kernel_rfl) (by kernel_rfl) (fun _ _ _ h => h) (Or.inl ⟨rfl, ?_⟩) hHeld ?_
    rotate_left
    · (intro wz hSw; (try dsimp only at hSw); have p0 : World.cell? wz ⟨E1, 0, none⟩ = some (.pointer (some ⟨D1, 0, none⟩)) := hSw.2.1.box.cell 0 _ rfl; have p22 : World.cell? wz ⟨E1, 22, none⟩ = some (.int .u32 st.pc) := hSw.2.1.box.cell 22 _ rfl; have p23 : World.cell? wz ⟨E1, 23, none⟩ = some (.int .i64 st.st) := hSw.2.1.box.cell 23 _ rfl; clear hSw; go_simp; try with_reducible rfl)
    try simp only [Act.put, List.setIfInBounds_toArray, List.set_cons_zero, List.set_cons_succ]
    refine wpAnyH_ready (rs := [28]) (by kernel_rfl) (by simp) ?_
    refine AllReadyH.cons (o := { dst := some 115, op := Op.call { callee := Callee.value (Operand.func 20), args := #[Operand.tmp 114], argTypes := #[32] }, type := 3, pos := "law.go:49", after := #[{ on := 27, ground := Ground.data }, { on := 26, ground := Ground.chain }, { on := 26, ground := Ground.guard }], guard := some (26, true) }) rfl (fun K hK => ?_) (AllReadyH.nil)
    go_simp
    go_at_call 20
    refine (status_any hHeld.1).mono ?_
    rintro e wa ⟨rfl, rfl⟩
    have hN := (show (fun wz => Mac F1 B1 st wz ∧ RMacAt G1 E1 st D1 D2 ai ni ci ao no co wz ∧ Below w.heap.size w wz) _ from hHeld)
    clear hHeld
    refine hK.out _ _ hN (fun hHeld => ?_)
    clear hK K hN
    try simp only [Act.put, List.setIfInBounds_toArray, List.set_cons_zero, List.set_cons_succ]
    refine wpAnyH_take (i := 33) (oi := { dst := some 120, op := Op.binOp BinOp.eql 3 (Operand.tmp 115) (Operand.tmp 119) 3, type := 4, pos := "law.go:49", after := #[{ on := 28, ground := Ground.data }, { on := 32, ground := Ground.data }, { on := 26, ground := Ground.guard }], guard := some (26, true) }) (v := ?_) rfl (by kernel_rfl) (by kernel_rfl) (by kernel_rfl) (fun _ _ _ h => h) (Or.inl ⟨rfl, ?_⟩) hHeld ?_
    rotate_left
    · (intro wz hSw; (try dsimp only at hSw); have p0 : World.cell? wz ⟨E1, 0, none⟩ = some (.pointer (some ⟨D1, 0, none⟩)) := hSw.2.1.box.cell 0 _ rfl; have p22 : World.cell? wz ⟨E1, 22, none⟩ = some (.int .u32 st.pc) := hSw.2.1.box.cell 22 _ rfl; have p23 : World.cell? wz ⟨E1, 23, none⟩ = some (.int .i64 st.st) := hSw.2.1.box.cell 23 _ rfl; clear hSw; go_simp; try with_reducible rfl)
    try simp only [Act.put, List.setIfInBounds_toArray, List.set_cons_zero, List.set_cons_succ]
    refine wpAnyH_take (i := 34) (oi := { dst := some 121, op := Op.pick (Operand.tmp 113) (Operand.tmp 120) (Operand.const (Value.bool false)), type := 4, pos := "law.go:49", after := #[{ on := 26, ground := Ground.data }, { on := 33, ground := Ground.data }], guard := none }) (v := ?_) rfl (by kernel_rfl) (by kernel_rfl) (by kernel_rfl) (fun _ _ _ h => h) (Or.inl ⟨rfl, ?_⟩) hHeld ?_
    rotate_left
    · (intro wz hSw; (try dsimp only at hSw); have p0 : World.cell? wz ⟨E1, 0, none⟩ = some (.pointer (some ⟨D1, 0, none⟩)) := hSw.2.1.box.cell 0 _ rfl; have p22 : World.cell? wz ⟨E1, 22, none⟩ = some (.int .u32 st.pc) := hSw.2.1.box.cell 22 _ rfl; have p23 : World.cell? wz ⟨E1, 23, none⟩ = some (.int .i64 st.st) := hSw.2.1.box.cell 23 _ rfl; clear hSw; go_simp; try with_reducible rfl)
    try simp only [Act.put, List.setIfInBounds_toArray, List.set_cons_zero, List.set_cons_succ]
    refine wpAnyH_take (i := 35) (oi := { dst := some 6, op := Op.assign (Operand.tmp 121), type := 4, pos := "law.go:49", after := #[{ on := 34, ground := Ground.data }, { on := 28, ground := Ground.chain }, { on := 0, ground := Ground.phase }, { on := 1, ground := Ground.phase }, { on := 2, ground := Ground.phase }, { on := 3, ground := Ground.phase }, { on := 4, ground := Ground.phase }, { on := 5, ground := Ground.phase }, { on := 6, ground := Ground.phase }, { on := 7, ground := Ground.phase }, { on := 8, ground := Ground.phase }, { on := 9, ground := Ground.phase }, { on := 10, ground := Ground.phase }, { on := 11, ground := Ground.phase }, { on := 12, ground := Ground.phase }, { on := 13, ground := Ground.phase }, { on := 14, ground := Ground.phase }, { on := 15, ground := Ground.phase }, { on := 16, ground := Ground.phase }, { on := 17, ground := Ground.phase }, { on := 18, ground := Ground.phase }, { on := 19, ground := Ground.phase }, { on := 20, ground := Ground.phase }, { on := 21, ground := Ground.phase }, { on := 22, ground := Ground.phase }, { on := 23, ground := Ground.phase }, { on := 24, ground := Ground.phase }, { on := 25, ground := Ground.phase }, { on := 26, ground := Ground.phase }, { on := 27, ground := Ground.phase }, { on := 28, ground := Ground.phase }, { on := 29, ground := Ground.phase }, { on := 30, ground := Ground.phase }, { on := 31, ground := Ground.phase }, { on := 32, ground := Ground.phase }, { on := 33, ground := Ground.phase }, { on := 34, ground := Ground.phase }], guard := none }) (v := ?_) rfl (by kernel_rfl) (by kernel_rfl) (by kernel_rfl) (fun _ _ _ h => h) (Or.inl ⟨rfl, ?_⟩) hHeld ?_
    rotate_left
    · (intro wz hSw; (try dsimp only at hSw); have p0 : World.cell? wz ⟨E1, 0, none⟩ = some (.pointer (some ⟨D1, 0, none⟩)) := hSw.2.1.box.cell 0 _ rfl; have p22 : World.cell? wz ⟨E1, 22, none⟩ = some (.int .u32 st.pc) := hSw.2.1.box.cell 22 _ rfl; have p23 : World.cell? wz ⟨E1, 23, none⟩ = some (.int .i64 st.st) := hSw.2.1.box.cell 23 _ rfl; clear hSw; go_simp; try with_reducible rfl)
    try simp only [Act.put, List.setIfInBounds_toArray, List.set_cons_zero, List.set_cons_succ]
    refine wpAnyH_done (by kernel_rfl) ?_ _
    have hE := Lib.hid hHeld.2.2
    clear hHeld
    go_wp2
    go_ret
    exact ⟨rfl, hE.out⟩
  · obtain ⟨rfl, hE⟩ := hM.2 cm
    replace hB := Lib.hid (hB.out.trans (hE.mono hB.out.size))
    replace hO := Lib.hid (hO.out.below hE)
    replace hP := Lib.hid (hP.out.below hE)
    replace hR := Lib.hid (hR.out.below hE)
    clear hE hM
    have em2 : (em == 0) = false := by simpa using cm
    have em3 : (em != 0) = true := by simpa using cm
    go_wp2_with (first
      | (with_reducible refine load_has (o := ⟨some 40, _, _, _, _, _⟩) rfl 26 (.tmp 3) rfl w.heap.size rfl hO.out Try.underlying26 rfl (Ob.info26 _ _ _) ?_)
      | fail)
    refine (CF.out _ hB.out).mono ?_; rintro r w9 ⟨C4, e4, rfl, hQ4, hE⟩
    replace hB := Lib.hid (hB.out.trans (hE.mono hB.out.size))
    replace hO := Lib.hid (hO.out.below hE)
    have hQ := Lib.hid hQ4.sy
    clear hQ4
    replace hP := Lib.hid (hP.out.below hE)
    replace hR := Lib.hid (hR.out.below hE)
    clear hE
    go_wp2_with (fail)
    refine (CY.out _ C4 e4 (hX.out.below hB.out) (hXs.out.below hB.out) hQ.out).mono ?_; rintro r w10 hM
    obtain ⟨rfl, hE⟩ := hM.2 cm
    replace hB := Lib.hid (hB.out.trans (hE.mono hB.out.size))
    replace hP := Lib.hid (hP.out.below hE)
    replace hR := Lib.hid (hR.out.below hE)
    clear hE hM CY hQ hO hX hXs CF
    go_wp2_with (fail)
    refine (Ch.same5_any hP.out hR.out).mono ?_; rintro r v1 ⟨rfl, hE⟩
    rw [decide_eq_true rfl]
    replace hB := Lib.hid (hB.out.trans (hE.mono hB.out.size))
    skip
    clear hE hP hR
    go_wp2_with (fail)
    refine (Lo.regs_any bb mm v1).mono ?_; rintro r v2 ⟨rfl, hK⟩
    replace hB := Lib.hid (hB.out.trans (hK.below.mono hB.out.size))
    skip
    clear hK
    go_wp2_with (fail)
    refine (Lo.rregs_any bb mm v2).mono ?_; rintro r v3 ⟨rfl, hK⟩
    replace hB := Lib.hid (hB.out.trans (hK.below.mono hB.out.size))
    skip
    clear hK
    generalize Lo.regs bb mm = rg at *
    go_wp2_with (first
      | (refine want_exec (o := ⟨some 79, _, _, _, _, _⟩) rfl (Lo.exec_neq (.tmp 75) (.tmp 78) rfl rg rfl rfl) ?_)
      | fail)
    go_ret
    exact ⟨rfl, hB.out⟩
end Go.Proofs.Ytpfgmfiegnkocaa
