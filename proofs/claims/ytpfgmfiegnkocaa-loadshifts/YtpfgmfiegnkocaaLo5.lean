/-
  The contracts of Machine of package load, and of the document's.
-/
import Derived.Test.YtpfgmfiegnkocaaM16
namespace Go.Proofs.Ytpfgmfiegnkocaa
open Go.RowKit
set_option linter.unusedVariables false
set_option linter.unusedSimpArgs false
set_option maxRecDepth 100000
/-- P12.2: the error, the machine -/
def Lo.mE (W S : List Int) (Y : List Ob.Y) (b m : Int) : Int := if Lo.iE W S Y b = 0 then (if m < 0 ∨ 4096 < m then 2 else if b / 4 + W.length ≤ m then 0 else 11) else Lo.iE W S Y b
def Lo.st (W S : List Int) (b m : Int) (ins : List Int) : X.St := ⟨M.placed (List.replicate m.toNat 0) (b / 4).toNat (Lo.img S b 0 W), Lo.regs b m, b, 0, ins, []⟩
def Lo.MacR (E : Int) (x : X.St) (w : World) (r : Ending) (w' : World) : Prop :=
  (E = 0 → ∃ B, r = .returned (.tuple #[.pointer (some ⟨B, 0, none⟩), .int .i64 0]) ∧ Live w B x w') ∧ (E ≠ 0 → r = .returned (.tuple #[.pointer none, .int .i64 E]) ∧ Below w.heap.size w w')
def Lo.RMacR (E : Int) (x : X.St) (w : World) (r : Ending) (w' : World) : Prop :=
  (E = 0 → ∃ B, r = .returned (.tuple #[.pointer (some ⟨B, 0, none⟩), .int .i64 0]) ∧ RLive w B x w') ∧ (E ≠ 0 → r = .returned (.tuple #[.pointer none, .int .i64 E]) ∧ Below w.heap.size w w')
theorem Lo.iE_cases (W S : List Int) (Y : List Ob.Y) (b : Int) (h : Lo.iE W S Y b = 0) : Ob.may W S Y = 0 ∧ Lo.base b := by
  by_cases c : Ob.may W S Y = 0
  · by_cases d : Lo.base b
    · exact ⟨c, d⟩
    · rw [(Lo.bad_E c d).1] at h; cases h
  · rw [(Lo.not_E c).1] at h; exact absurd h c
theorem Lo.img_base {S W : List Int} {b : Int} (h : ∀ x ∈ W, 0 ≤ x ∧ x < 4294967296) : ∀ x ∈ Lo.img S b 0 W, 0 ≤ x ∧ x < 4294967296 := Lo.img_rng 0 h
set_option maxHeartbeats 2000000 in
set_option maxRecDepth 100000 in
theorem Lo.machine_any {w : World} {A B C : Option Addr} {n c m d k e : Nat} {ws ss : List Int} {ys : List Ob.Y} (hW : Wo w A n c ws) (hS : In w B m d ss) (hY : Sy w C k e ys) (hsz : ∀ y ∈ ys, y.1.size ≤ 1000000) (b mm : Int)
    {ap : Option Addr} {ni ci : Nat} {is : List Int} (hI : Ws w ap ni ci is) (hni : ni ≤ 1000000000) :
    Calls Try.prog 11 #[.agg #[.slice A n c, .slice B m d, .slice C k e], .int .i64 b, .int .i64 mm, .slice ap ni ci] w (Lo.MacR (Lo.mE ws ss ys b mm) (Lo.st ws ss b mm is) w) := by
  have hO := Has.new #[.slice A n c, .slice B m d, .slice C k e] 26 w
  have hB := ((Kept.refl w).alloc #[.slice A n c, .slice B m d, .slice C k e] 26).below
  have hlw := hW.len
  have hwr := hW.rng
  have hS1 : w.heap.size ≤ (w.alloc (.cells #[.slice A n c, .slice B m d, .slice C k e] 26)).heap.size := hB.size
  have hI0 := Lib.hid hI
  replace hW := Lib.hid (hW.below hB)
  replace hS := Lib.hid (hS.below hB)
  replace hY := Lib.hid (hY.below hB)
  replace hB := Lib.hid hB
  replace hO := Lib.hid hO
  clear hI
  have CI := Lib.hid (fun (v : World) (h1 : Wo v A n c ws) (h2 : In v B m d ss) (h3 : Sy v C k e ys) => Lo.image_any h1 h2 h3 hsz b)
  by_cases ci0 : Lo.iE ws ss ys b = 0
  case neg =>
    have e1 : Lo.mE ws ss ys b mm = Lo.iE ws ss ys b := by unfold Lo.mE; rw [if_neg ci0]
    rw [e1]
    generalize hst : Lo.st ws ss b mm is = st at *
    clear hst
    generalize Lo.iE ws ss ys b = z at *
    have z1 : (z == 0) = false := by simpa using ci0
    have z2 : (z != 0) = true := by simpa using ci0
    clear hwr
    obtain ⟨Q, hQ⟩ : ∃ Q, Q = Lo.MacR z st w := ⟨_, rfl⟩
    rw [← hQ]
    replace hQ := Lib.hid hQ
    go_enter Try.func11, Try.ntmps11
    go_wp2_with (first
      | (with_reducible refine load_has (o := ⟨some 15, _, _, _, _, _⟩) rfl 26 (.tmp 4) rfl w.heap.size rfl hO.out Try.underlying26 rfl (Ob.info26 _ _ _) ?_)
      | fail)
    generalize w.alloc (.cells #[.slice A n c, .slice B m d, .slice C k e] 26) = w1 at *
    refine (CI.out _ hW.out hS.out hY.out).mono ?_; rintro r w2 ⟨A1, n1, c1, rfl, hP, hE⟩
    replace hB := Lib.hid (hB.out.trans (hE.mono hS1))
    clear hE CI hW hS hY hO hP
    go_wp2
    rw [hQ.out]
    exact ⟨fun q => absurd q ci0, fun _ => ⟨rfl, hB.out⟩⟩
  obtain ⟨hmay, hbase⟩ := Lo.iE_cases ws ss ys b ci0
  have hn0 := (Lo.may_ok hwr hmay).hn
  rw [hlw] at hn0
  have hir := Lo.img_base (S := ss) (b := b) hwr
  rw [ci0, Lo.ok_W hmay hbase] at CI
  have hil := Lo.img_len ss b ws 0
  rw [hlw] at hil
  obtain ⟨b0, b1, b2⟩ := hbase
  have e1 : Lo.mE ws ss ys b mm = if mm < 0 ∨ 4096 < mm then 2 else if b / 4 + ws.length ≤ mm then 0 else 11 := by unfold Lo.mE; rw [if_pos ci0]
  rw [e1, hlw]
  clear e1 ci0 hmay
  have hsts : Lo.st ws ss b mm is = ⟨M.placed (List.replicate mm.toNat 0) (b / 4).toNat (Lo.img ss b 0 ws), Lo.regs b mm, b, 0, is, []⟩ := rfl
  generalize Lo.st ws ss b mm is = st at *
  generalize Lo.img ss b 0 ws = im at *
  replace hir := Lib.hid hir
  replace hsts := Lib.hid hsts
  clear hwr
  by_cases cm : mm < 0 ∨ 4096 < mm
  · rw [if_pos cm]
    have CN := Lib.hid (fun v : World => Lo.new_no (w := v) mm cm ap ni ci)
    obtain ⟨Q, hQ⟩ : ∃ Q, Q = Lo.MacR 2 st w := ⟨_, rfl⟩
    rw [← hQ]
    replace hQ := Lib.hid hQ
    go_enter Try.func11, Try.ntmps11
    go_wp2_with (first
      | (with_reducible refine load_has (o := ⟨some 15, _, _, _, _, _⟩) rfl 26 (.tmp 4) rfl w.heap.size rfl hO.out Try.underlying26 rfl (Ob.info26 _ _ _) ?_)
      | fail)
    generalize w.alloc (.cells #[.slice A n c, .slice B m d, .slice C k e] 26) = w1 at *
    refine (CI.out _ hW.out hS.out hY.out).mono ?_; rintro r w2 ⟨A1, n1, c1, rfl, hP, hE⟩
    replace hB := Lib.hid (hB.out.trans (hE.mono hS1))
    clear hE CI hW hS hY hO hP
    go_wp2_with (fail)
    refine (CN.out _).mono ?_; rintro r w3 ⟨rfl, rfl⟩
    clear CN
    go_wp2
    rw [hQ.out]
    exact ⟨fun q => absurd q (by decide), fun _ => ⟨rfl, hB.out⟩⟩
  rw [if_neg cm]
  obtain ⟨N, rfl⟩ : ∃ N : Nat, mm = N := ⟨mm.toNat, by omega⟩
  obtain ⟨K, hK⟩ : ∃ K : Nat, b / 4 = K := ⟨(b / 4).toNat, by omega⟩
  rw [hK]
  rw [hK, Int.toNat_natCast, Int.toNat_natCast] at hsts
  have hN : N ≤ 4096 := by omega
  have hK1 : K ≤ 4096 := by omega
  have hlr : (List.replicate N (0 : Int)).length = N := List.length_replicate
  by_cases cf : (K : Int) + n ≤ N
  · rw [if_pos cf]
    obtain ⟨Q, hQ⟩ : ∃ Q, Q = Lo.MacR 0 st w := ⟨_, rfl⟩
    rw [← hQ]
    replace hQ := Lib.hid hQ
    go_enter Try.func11, Try.ntmps11
    go_wp2_with (first
      | (with_reducible refine load_has (o := ⟨some 15, _, _, _, _, _⟩) rfl 26 (.tmp 4) rfl w.heap.size rfl hO.out Try.underlying26 rfl (Ob.info26 _ _ _) ?_)
      | fail)
    generalize w.alloc (.cells #[.slice A n c, .slice B m d, .slice C k e] 26) = w1 at *
    refine (CI.out _ hW.out hS.out hY.out).mono ?_; rintro r w2 ⟨A1, n1, c1, rfl, hP, hE⟩
    have hP1 := hP.rg.rw (L := 4294967296) hir.out
    have hn1 := hP1.len
    rw [hil] at hn1
    subst hn1
    replace hB := Lib.hid (hB.out.trans (hE.mono hS1))
    have hI2 := Lib.hid (hI0.out.below (w0 := w) (Nat.le_refl _) hB.out)
    replace hP := Lib.hid hP1.ws
    clear hE CI hW hS hY hO hP1
    go_wp2_with (fail)
    refine (new_live N hN hI2.out hni).mono ?_; rintro r w3 ⟨M0, rfl, hL⟩
    replace hP := Lib.hid (hP.out.below (w0 := w2) (Nat.le_refl _) hL.below)
    replace hL := Lib.hid (hL.lift hB.out)
    clear hB hI2
    go_wp2_with (fail)
    refine (place_live hL.out K A1 n c1 im hP.out (by rw [hlr]; omega)).mono ?_; rintro r w4 ⟨rfl, hL4⟩
    replace hL := Lib.hid hL4
    clear hL4 hP
    go_wp2_with (fail)
    refine (Lo.regs_any b N _).mono ?_; rintro r w5 ⟨rfl, hK5⟩
    replace hL := Lib.hid (hL.out.kept hK5)
    clear hK5
    have ok := Lo.ok_regs b N
    generalize Lo.regs b N = rg at *
    go_wp2_with (fail)
    refine (start_live hL.out b rg ok b0 (by omega)).mono ?_; rintro r w6 ⟨rfl, hL6⟩
    replace hL := Lib.hid hL6
    clear hL6 ok
    go_wp2
    rw [hQ.out]
    refine ⟨fun _ => ⟨M0, rfl, ?_⟩, fun q => absurd rfl q⟩
    rw [hsts.out]
    exact hL.out
  · rw [if_neg cf]
    obtain ⟨Q, hQ⟩ : ∃ Q, Q = Lo.MacR 11 st w := ⟨_, rfl⟩
    rw [← hQ]
    replace hQ := Lib.hid hQ
    go_enter Try.func11, Try.ntmps11
    go_wp2_with (first
      | (with_reducible refine load_has (o := ⟨some 15, _, _, _, _, _⟩) rfl 26 (.tmp 4) rfl w.heap.size rfl hO.out Try.underlying26 rfl (Ob.info26 _ _ _) ?_)
      | fail)
    generalize w.alloc (.cells #[.slice A n c, .slice B m d, .slice C k e] 26) = w1 at *
    refine (CI.out _ hW.out hS.out hY.out).mono ?_; rintro r w2 ⟨A1, n1, c1, rfl, hP, hE⟩
    have hP1 := hP.rg.rw (L := 4294967296) hir.out
    have hn1 := hP1.len
    rw [hil] at hn1
    subst hn1
    replace hB := Lib.hid (hB.out.trans (hE.mono hS1))
    have hI2 := Lib.hid (hI0.out.below (w0 := w) (Nat.le_refl _) hB.out)
    replace hP := Lib.hid hP1.ws
    clear hE CI hW hS hY hO hP1
    go_wp2_with (fail)
    refine (new_live N hN hI2.out hni).mono ?_; rintro r w3 ⟨M0, rfl, hL⟩
    replace hP := Lib.hid (hP.out.below (w0 := w2) (Nat.le_refl _) hL.below)
    replace hL := Lib.hid (hL.lift hB.out)
    clear hB hI2
    have CPn := Lib.hid (fun (v : World) (hv : Live w M0 ⟨List.replicate N 0, Lo.r0, 0, 0, is, []⟩ v) (h1 : Ws v A1 n c1 im) => by
      obtain ⟨F, hv1, _⟩ := hv
      exact Lo.place_no hv1 K A1 n c1 im h1 (by rw [hlr]; omega) (by omega))
    go_wp2_with (fail)
    refine (CPn.out _ hL.out hP.out).mono ?_; rintro r w4 ⟨rfl, rfl⟩
    clear CPn hP
    go_wp2
    rw [hQ.out]
    exact ⟨fun q => absurd q (by decide), fun _ => ⟨rfl, hL.out.below⟩⟩
set_option maxHeartbeats 2000000 in
set_option maxRecDepth 100000 in
theorem Lo.rmachine_any {w : World} {A B C : Option Addr} {n c m d k e : Nat} {ws ss : List Int} {ys : List Ob.Y} (hW : Wo w A n c ws) (hS : In w B m d ss) (hY : Sy w C k e ys) (hsz : ∀ y ∈ ys, y.1.size ≤ 1000000) (b mm : Int)
    {ap : Option Addr} {ni ci : Nat} {is : List Int} (hI : Ws w ap ni ci is) (hni : ni ≤ 1000000000) :
    Calls Try.prog 12 #[.agg #[.slice A n c, .slice B m d, .slice C k e], .int .i64 b, .int .i64 mm, .slice ap ni ci] w (Lo.RMacR (Lo.mE ws ss ys b mm) (Lo.st ws ss b mm is) w) := by
  have hO := Has.new #[.slice A n c, .slice B m d, .slice C k e] 26 w
  have hB := ((Kept.refl w).alloc #[.slice A n c, .slice B m d, .slice C k e] 26).below
  have hlw := hW.len
  have hwr := hW.rng
  have hS1 : w.heap.size ≤ (w.alloc (.cells #[.slice A n c, .slice B m d, .slice C k e] 26)).heap.size := hB.size
  have hI0 := Lib.hid hI
  replace hW := Lib.hid (hW.below hB)
  replace hS := Lib.hid (hS.below hB)
  replace hY := Lib.hid (hY.below hB)
  replace hB := Lib.hid hB
  replace hO := Lib.hid hO
  clear hI
  have CI := Lib.hid (fun (v : World) (h1 : Wo v A n c ws) (h2 : In v B m d ss) (h3 : Sy v C k e ys) => Lo.rimage_any h1 h2 h3 hsz b)
  by_cases ci0 : Lo.iE ws ss ys b = 0
  case neg =>
    have e1 : Lo.mE ws ss ys b mm = Lo.iE ws ss ys b := by unfold Lo.mE; rw [if_neg ci0]
    rw [e1]
    generalize hst : Lo.st ws ss b mm is = st at *
    clear hst
    generalize Lo.iE ws ss ys b = z at *
    have z1 : (z == 0) = false := by simpa using ci0
    have z2 : (z != 0) = true := by simpa using ci0
    clear hwr
    obtain ⟨Q, hQ⟩ : ∃ Q, Q = Lo.RMacR z st w := ⟨_, rfl⟩
    rw [← hQ]
    replace hQ := Lib.hid hQ
    go_enter Try.func12, Try.ntmps12
    go_wp2_with (first
      | (with_reducible refine load_has (o := ⟨some 15, _, _, _, _, _⟩) rfl 26 (.tmp 4) rfl w.heap.size rfl hO.out Try.underlying26 rfl (Ob.info26 _ _ _) ?_)
      | fail)
    generalize w.alloc (.cells #[.slice A n c, .slice B m d, .slice C k e] 26) = w1 at *
    refine (CI.out _ hW.out hS.out hY.out).mono ?_; rintro r w2 ⟨A1, n1, c1, rfl, hP, hE⟩
    replace hB := Lib.hid (hB.out.trans (hE.mono hS1))
    clear hE CI hW hS hY hO hP
    go_wp2
    rw [hQ.out]
    exact ⟨fun q => absurd q ci0, fun _ => ⟨rfl, hB.out⟩⟩
  obtain ⟨hmay, hbase⟩ := Lo.iE_cases ws ss ys b ci0
  have hn0 := (Lo.may_ok hwr hmay).hn
  rw [hlw] at hn0
  have hir := Lo.img_base (S := ss) (b := b) hwr
  rw [ci0, Lo.ok_W hmay hbase] at CI
  have hil := Lo.img_len ss b ws 0
  rw [hlw] at hil
  obtain ⟨b0, b1, b2⟩ := hbase
  have e1 : Lo.mE ws ss ys b mm = if mm < 0 ∨ 4096 < mm then 2 else if b / 4 + ws.length ≤ mm then 0 else 11 := by unfold Lo.mE; rw [if_pos ci0]
  rw [e1, hlw]
  clear e1 ci0 hmay
  have hsts : Lo.st ws ss b mm is = ⟨M.placed (List.replicate mm.toNat 0) (b / 4).toNat (Lo.img ss b 0 ws), Lo.regs b mm, b, 0, is, []⟩ := rfl
  generalize Lo.st ws ss b mm is = st at *
  generalize Lo.img ss b 0 ws = im at *
  replace hir := Lib.hid hir
  replace hsts := Lib.hid hsts
  clear hwr
  by_cases cm : mm < 0 ∨ 4096 < mm
  · rw [if_pos cm]
    have CN := Lib.hid (fun v : World => Lo.rnew_no (w := v) mm cm ap ni ci)
    obtain ⟨Q, hQ⟩ : ∃ Q, Q = Lo.RMacR 2 st w := ⟨_, rfl⟩
    rw [← hQ]
    replace hQ := Lib.hid hQ
    go_enter Try.func12, Try.ntmps12
    go_wp2_with (first
      | (with_reducible refine load_has (o := ⟨some 15, _, _, _, _, _⟩) rfl 26 (.tmp 4) rfl w.heap.size rfl hO.out Try.underlying26 rfl (Ob.info26 _ _ _) ?_)
      | fail)
    generalize w.alloc (.cells #[.slice A n c, .slice B m d, .slice C k e] 26) = w1 at *
    refine (CI.out _ hW.out hS.out hY.out).mono ?_; rintro r w2 ⟨A1, n1, c1, rfl, hP, hE⟩
    replace hB := Lib.hid (hB.out.trans (hE.mono hS1))
    clear hE CI hW hS hY hO hP
    go_wp2_with (fail)
    refine (CN.out _).mono ?_; rintro r w3 ⟨rfl, rfl⟩
    clear CN
    go_wp2
    rw [hQ.out]
    exact ⟨fun q => absurd q (by decide), fun _ => ⟨rfl, hB.out⟩⟩
  rw [if_neg cm]
  obtain ⟨N, rfl⟩ : ∃ N : Nat, mm = N := ⟨mm.toNat, by omega⟩
  obtain ⟨K, hK⟩ : ∃ K : Nat, b / 4 = K := ⟨(b / 4).toNat, by omega⟩
  rw [hK]
  rw [hK, Int.toNat_natCast, Int.toNat_natCast] at hsts
  have hN : N ≤ 4096 := by omega
  have hK1 : K ≤ 4096 := by omega
  have hlr : (List.replicate N (0 : Int)).length = N := List.length_replicate
  by_cases cf : (K : Int) + n ≤ N
  · rw [if_pos cf]
    obtain ⟨Q, hQ⟩ : ∃ Q, Q = Lo.RMacR 0 st w := ⟨_, rfl⟩
    rw [← hQ]
    replace hQ := Lib.hid hQ
    go_enter Try.func12, Try.ntmps12
    go_wp2_with (first
      | (with_reducible refine load_has (o := ⟨some 15, _, _, _, _, _⟩) rfl 26 (.tmp 4) rfl w.heap.size rfl hO.out Try.underlying26 rfl (Ob.info26 _ _ _) ?_)
      | fail)
    generalize w.alloc (.cells #[.slice A n c, .slice B m d, .slice C k e] 26) = w1 at *
    refine (CI.out _ hW.out hS.out hY.out).mono ?_; rintro r w2 ⟨A1, n1, c1, rfl, hP, hE⟩
    have hP1 := hP.rg.rw (L := 4294967296) hir.out
    have hn1 := hP1.len
    rw [hil] at hn1
    subst hn1
    replace hB := Lib.hid (hB.out.trans (hE.mono hS1))
    have hI2 := Lib.hid (hI0.out.below (w0 := w) (Nat.le_refl _) hB.out)
    replace hP := Lib.hid hP1.ws
    clear hE CI hW hS hY hO hP1
    go_wp2_with (fail)
    refine (Lo.rnew_live N hN hI2.out hni).mono ?_; rintro r w3 ⟨M0, rfl, hL⟩
    have hP2 := Lib.hid hP.out
    replace hL := Lib.hid hL
    clear hP hI2
    obtain ⟨D0, hD0, hPl⟩ := Lo.rplace_live hL.out K hP2.out (by rw [hlr]; omega)
    replace hPl := Lib.hid hPl
    go_wp2_with (fail)
    refine hPl.out.mono ?_; rintro r w4 ⟨rfl, hL4⟩
    replace hL := Lib.hid (hL4.lift hB.out)
    clear hL4 hP2 hPl hD0 hB
    go_wp2_with (fail)
    refine (Lo.rregs_any b N _).mono ?_; rintro r w5 ⟨rfl, hK5⟩
    replace hL := Lib.hid (hL.out.kept hK5)
    clear hK5
    have ok := Lo.ok_regs b N
    generalize Lo.regs b N = rg at *
    go_wp2_with (fail)
    refine (Lo.rstart_live hL.out b rg ok b0 (by omega)).mono ?_; rintro r w6 ⟨rfl, hL6⟩
    replace hL := Lib.hid hL6
    clear hL6 ok
    go_wp2
    rw [hQ.out]
    refine ⟨fun _ => ⟨M0, rfl, ?_⟩, fun q => absurd rfl q⟩
    rw [hsts.out]
    exact hL.out
  · rw [if_neg cf]
    obtain ⟨Q, hQ⟩ : ∃ Q, Q = Lo.RMacR 11 st w := ⟨_, rfl⟩
    rw [← hQ]
    replace hQ := Lib.hid hQ
    go_enter Try.func12, Try.ntmps12
    go_wp2_with (first
      | (with_reducible refine load_has (o := ⟨some 15, _, _, _, _, _⟩) rfl 26 (.tmp 4) rfl w.heap.size rfl hO.out Try.underlying26 rfl (Ob.info26 _ _ _) ?_)
      | fail)
    generalize w.alloc (.cells #[.slice A n c, .slice B m d, .slice C k e] 26) = w1 at *
    refine (CI.out _ hW.out hS.out hY.out).mono ?_; rintro r w2 ⟨A1, n1, c1, rfl, hP, hE⟩
    have hP1 := hP.rg.rw (L := 4294967296) hir.out
    have hn1 := hP1.len
    rw [hil] at hn1
    subst hn1
    replace hB := Lib.hid (hB.out.trans (hE.mono hS1))
    have hI2 := Lib.hid (hI0.out.below (w0 := w) (Nat.le_refl _) hB.out)
    replace hP := Lib.hid hP1.ws
    clear hE CI hW hS hY hO hP1
    go_wp2_with (fail)
    refine (Lo.rnew_live N hN hI2.out hni).mono ?_; rintro r w3 ⟨M0, rfl, hL⟩
    have hP2 := Lib.hid hP.out
    replace hL := Lib.hid hL
    clear hP hI2
    obtain ⟨D0, hD0, hPl⟩ := Lo.rplace_no hL.out K A1 n c1 (by have := hP2.out.le; have := hP2.out.max; omega) (by omega) (by rw [hlr]; omega)
    replace hPl := Lib.hid hPl
    go_wp2_with (fail)
    refine hPl.out.mono ?_; rintro r w4 ⟨rfl, rfl⟩
    replace hL := Lib.hid (hL.out.lift hB.out)
    clear hP2 hPl hD0 hB
    go_wp2
    rw [hQ.out]
    exact ⟨fun q => absurd q (by decide), fun _ => ⟨rfl, hL.out.below⟩⟩
end Go.Proofs.Ytpfgmfiegnkocaa
