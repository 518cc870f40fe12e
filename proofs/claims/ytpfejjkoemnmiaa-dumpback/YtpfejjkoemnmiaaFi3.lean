/-
  The contract of takeParts of package file.
-/
import Derived.Test.YtpfejjkoemnmiaaM13
namespace Go.Proofs.Ytpfejjkoemnmiaa
open Go.RowKit
set_option linter.unusedVariables false
set_option linter.unusedSimpArgs false
set_option maxRecDepth 100000
theorem Fi.built57 : Try.prog.built 79 [] = some #[.slice none 0 0, .int .i64 0, .slice none 0 0] := by kernel_rfl
theorem Fi.exec57 {o : Oper} {a : Act} {w : World} (ho : o.op = .build 79 #[]) : (execOp a.eval o).run Try.prog w = .ok (.value (.agg #[.slice none 0 0, .int .i64 0, .slice none 0 0])) w := by
  refine exec_build 79 #[] ho _ ?_
  rw [Array.map_empty]
  exact Fi.built57
theorem Fi.info57 (x y z : Value) : (Try.prog.info? 79).map (·.size) = some (#[x, y, z] : Array Value).size := by
  have : (Try.prog.info? 79).map (·.size) = some 3 := by kernel_rfl
  rw [this]; rfl
theorem Fi.one57 (A B : Option Addr) (n c m d : Nat) (x : Int) : (#[.slice A n c, .int .i64 x, .slice B m d] : Array Value).all (·.oneCell') = true := by simp [Value.oneCell']
theorem Fi.takeWords_q {w : World} {A : Option Addr} {m c : Nat} {bs : List Int} (h : By w A m c bs) (hm : m ≤ 1000000) (n q : Nat) (hq : 4 * n = q) (hs : q ≤ m) :
    Calls Try.prog 59 #[.slice A m c, .int .i64 n] w fun e w' => ∃ A' k c', e = .returned (.tuple #[.slice A' k c', .slice (Fi.at A c q) (m - q) (c - q), .int .i64 0]) ∧ Wo w' A' k c' (L.words bs n) ∧ Below w.heap.size w w' := by
  subst hq
  exact Fi.takeWords_yes h hm n hs
theorem Fi.parts_1 {bs : List Int} (h : bs.length < 16) : Fi.parts bs = .error 3 := by unfold Fi.parts; rw [if_pos h]
section
variable {bs : List Int} (h : ¬ bs.length < 16)
include h
theorem Fi.parts_2 (h2 : ¬ L.word bs 0 = 894847314) : Fi.parts bs = .error 5 := by unfold Fi.parts; rw [if_neg h, if_pos h2]
theorem Fi.parts_3 (h2 : L.word bs 0 = 894847314) (h3 : 1024 < L.word bs 4 ∨ 64 < L.word bs 12) : Fi.parts bs = .error 2 := by unfold Fi.parts; rw [if_neg h, if_neg (fun q => q h2), if_pos h3]
theorem Fi.parts_4 (h2 : L.word bs 0 = 894847314) (h3 : ¬ (1024 < L.word bs 4 ∨ 64 < L.word bs 12)) (h4 : (bs.drop 16).length < 4 * (L.word bs 4).toNat) : Fi.parts bs = .error 3 := by unfold Fi.parts; rw [if_neg h, if_neg (fun q => q h2), if_neg h3, if_pos h4]
theorem Fi.parts_5 (h2 : L.word bs 0 = 894847314) (h3 : ¬ (1024 < L.word bs 4 ∨ 64 < L.word bs 12)) (h4 : ¬ (bs.drop 16).length < 4 * (L.word bs 4).toNat) :
    Fi.parts bs = match Fi.go (L.word bs 12).toNat ((bs.drop 16).drop (4 * (L.word bs 4).toNat)) with
      | .error e => .error e
      | .ok (ys, r) => if 0 < r.length then .error 4 else .ok (L.words (bs.drop 16) (L.word bs 4).toNat, L.word bs 8, ys) := by
  conv => lhs; unfold Fi.parts
  rw [if_neg h, if_neg (fun q => q h2), if_neg h3, if_neg h4]
  generalize Fi.go (L.word bs 12).toNat ((bs.drop 16).drop (4 * (L.word bs 4).toNat)) = g
  cases g with
  | error e => rfl
  | ok p => rfl
end
theorem Fi.go_nz : ∀ (k : Nat) (bs : List Int) (e : Int), Fi.go k bs = .error e → e ≠ 0
  | 0, bs, e, h => by cases h
  | k + 1, bs, e, h => by
    unfold Fi.go at h
    cases hs : Fi.step bs with
    | error e => rw [hs] at h; cases h; exact Fi.step_nz hs
    | ok p =>
      obtain ⟨y, q⟩ := p
      rw [hs] at h
      cases hg : Fi.go k q with
      | error e => simp only [hg] at h; cases h; exact Fi.go_nz k q _ hg
      | ok p => simp only [hg] at h; cases h
/-- a row of numbers of a kind does not lie in a block that holds none of them -/
theorem Rw.rowOff {k : IntKind} {L : Int} {w : World} {A : Option Addr} {n c G : Nat} {xs : List Int} {cs : Array Value} {t : TypeId} (h : Rw k L w A n c xs) (hG : Has G cs t w) (hcs : ∀ v ∈ cs, ∀ x, v ≠ .int k x) (cs' : Array Value) : Rw k L (w.setRow G cs') A n c xs := by
  refine h.to fun ad e hn => ?_
  subst e
  refine setRow_other w G ad.block cs' fun hb => ?_
  obtain ⟨b, off, rfl⟩ := h.addr hn
  have hb' : b = G := hb
  subst hb'
  have hl := h.len
  have h1 := h.cellIn 0 (by omega)
  rw [Nat.add_zero] at h1
  have h2 := cell_of_row w b off cs t _ hG
  rw [h2] at h1
  exact hcs _ (Array.mem_of_getElem? h1) _ rfl
/-- what takeParts hands back -/
def Fi.PartsR (w w' : World) (e : Ending) (x : Except Int (List Int × Int × List Ob.Y)) : Prop := match x with
  | .error z => e = .returned (.tuple #[.agg #[.slice none 0 0, .int .i64 0, .slice none 0 0], .int .i64 z]) ∧ Below w.heap.size w w'
  | .ok (P, h, ys) => ∃ A n c C f, e = .returned (.tuple #[.agg #[.slice A n c, .int .i64 h, .slice C ys.length f], .int .i64 0]) ∧ Wo w' A n c P ∧ Os 54 w.heap.size C ys.length f ys w' ∧ Below w.heap.size w w'
set_option maxHeartbeats 4000000 in
set_option maxRecDepth 100000 in
theorem Fi.takeParts_any {w : World} {A : Option Addr} {m c : Nat} {bs : List Int} (h : By w A m c bs) (hm : m ≤ 1000000) :
    Calls Try.prog 39 #[.slice A m c] w fun e w' => Fi.PartsR w w' e (Fi.parts bs) := by
  have hl := h.len
  have hle := h.le
  have hG := Lib.hid (Has.new #[.slice none 0 0, .int .i64 0, .slice none 0 0] 79 w)
  have hB := (((Kept.refl w).alloc #[.slice none 0 0, .int .i64 0, .slice none 0 0] 79).below)
  have hX := Lib.hid (h.below hB)
  have hS : w.heap.size ≤ (w.alloc (.cells #[.slice none 0 0, .int .i64 0, .slice none 0 0] 79)).heap.size := hB.size
  replace hB := Lib.hid hB
  obtain ⟨X, hXe⟩ : ∃ X, Fi.parts bs = X := ⟨_, rfl⟩
  rw [hXe]
  by_cases c1 : m < 16
  · rw [Fi.parts_1 (by omega)] at hXe
    subst hXe
    clear h
    go_enter Try.func39, Try.ntmps39
    go_wp2_with (fail)
    generalize w.alloc (.cells #[.slice none 0 0, .int .i64 0, .slice none 0 0] 79) = w1 at *
    refine (Fi.takeWords_no (A := A) (c := c) (m := m) hm 4 (by omega) (by omega)).mono ?_; rintro e w2 ⟨rfl, hE⟩
    replace hB := Lib.hid (hB.out.trans (hE.mono hS))
    replace hG := Lib.hid (hG.out.below hE)
    clear hE hX
    go_wp2_with (first
      | (with_reducible refine want_do (o := ⟨some 21, _, _, _, _, _⟩) rfl (Fi.exec57 rfl) ?_)
      | (with_reducible refine store_has (o := ⟨none, _, _, _, _, _⟩) rfl 79 (.tmp 2) (.tmp 21) rfl w.heap.size #[.slice none 0 0, .int .i64 0, .slice none 0 0] rfl rfl hG.out (Fi.info57 _ _ _) rfl (Fi.one57 _ _ _ _ _ _ _) ?_)
      | fail)
    refine bodyPost_ret (results_has2 rfl w.heap.size rfl (hG.out.row _) Try.underlying79 rfl (Fi.info57 _ _ _)) rfl ?_
    exact ⟨rfl, Bel.setRow hB.out (Nat.le_refl _) _⟩
  have hl16 : ¬ bs.length < 16 := by omega
  have hT := h.tail 16 (by omega)
  have P2 := Lib.hid (Fi.parts_2 hl16)
  have P3 := Lib.hid (Fi.parts_3 hl16)
  have P4 := Lib.hid (Fi.parts_4 hl16)
  have P5 := Lib.hid (Fi.parts_5 hl16)
  have hr0 := L.word_rng bs h.rng 0
  have hr1 := L.word_rng bs h.rng 4
  have hr2 := L.word_rng bs h.rng 8
  have hr3 := L.word_rng bs h.rng 12
  have hws : L.words bs 4 = [L.word bs 0, L.word bs 4, L.word bs 8, L.word bs 12] := rfl
  generalize L.word bs 0 = x0 at *
  generalize L.word bs 4 = x1 at *
  generalize L.word bs 8 = x2 at *
  generalize L.word bs 12 = x3 at *
  have hdl : (bs.drop 16).length = m - 16 := by rw [List.length_drop, hl]
  generalize bs.drop 16 = b1 at *
  obtain ⟨n1, hn1⟩ := Int.eq_ofNat_of_zero_le hr1.1
  obtain ⟨n3, hn3⟩ := Int.eq_ofNat_of_zero_le hr3.1
  subst hn1 hn3
  rw [Int.toNat_natCast] at P4 P5
  rw [Int.toNat_natCast] at P5
  have hws2 := Lib.hid hws
  clear hws
  obtain ⟨R1, hR1⟩ : ∃ R : Option Addr, Fi.at A c 16 = R := ⟨_, rfl⟩
  obtain ⟨m1, hm1⟩ : ∃ m1, m - 16 = m1 := ⟨_, rfl⟩
  obtain ⟨k1, hk1⟩ : ∃ k1, c - 16 = k1 := ⟨_, rfl⟩
  rw [hR1, hm1, hk1] at hT
  rw [hm1] at hdl
  replace hT := Lib.hid (hT.below hB.out)
  clear h hl
  replace hXe := Lib.hid hXe
  go_enter Try.func39, Try.ntmps39
  go_wp2_with (fail)
  generalize w.alloc (.cells #[.slice none 0 0, .int .i64 0, .slice none 0 0] 79) = w1 at *
  refine (Fi.takeWords_q hX.out hm 4 16 rfl (by omega)).mono ?_; rintro e w2 ⟨A1, k, c1', rfl, hW, hE⟩
  rw [hR1, hm1, hk1]
  rw [hws2.out] at hW
  replace hB := Lib.hid (hB.out.trans (hE.mono hS))
  replace hG := Lib.hid (hG.out.below hE)
  replace hT := Lib.hid (hT.out.below hE)
  replace hS : w.heap.size ≤ w2.heap.size := Nat.le_trans hS hE.size
  have hk4 : k = 4 := by rw [← hW.len]; rfl
  subst hk4
  obtain ⟨b, off, rfl⟩ := hW.place (by omega)
  have g0 := hW.cellAt 0 x0 rfl
  rw [Nat.add_zero] at g0
  have g1 := hW.cellAt 1 (n1 : Int) rfl
  have g2 := hW.cellAt 2 x2 rfl
  have g3 := hW.cellAt 3 (n3 : Int) rfl
  clear hE hX hW hws2 hR1 hk1
  go_wp2
  go_quiet (fail)
  clear g0 g1 g2 g3
  replace hB := Lib.hid (Bel.drewN hB.out nq)
  replace hG := Lib.hid (hG.out.below (Bel.drewN (Below.refl _ _) nq))
  replace hT := Lib.hid (hT.out.below (Bel.drewN (Below.refl _ _) nq))
  have hS2 : w.heap.size ≤ (w2.drewN nq).heap.size := hS
  replace hS := hS2
  clear hS2
  generalize w2.drewN nq = w3 at *
  by_cases c2 : x0 = 894847314
  case neg =>
    have X1 := hXe.out.symm.trans (P2.out c2)
    subst X1
    have z1 : (x0 == 894847314) = false := by simpa using c2
    have z2 : (x0 != 894847314) = true := by simpa using c2
    clear hT hXe
    go_wp2_with (first
      | (with_reducible refine want_do (o := ⟨some 38, _, _, _, _, _⟩) rfl (Fi.exec57 rfl) ?_)
      | (with_reducible refine store_has (o := ⟨none, _, _, _, _, _⟩) rfl 79 (.tmp 2) (.tmp 38) rfl w.heap.size #[.slice none 0 0, .int .i64 0, .slice none 0 0] rfl rfl hG.out (Fi.info57 _ _ _) rfl (Fi.one57 _ _ _ _ _ _ _) ?_)
      | fail)
    refine bodyPost_ret (results_has2 rfl w.heap.size rfl (hG.out.row _) Try.underlying79 rfl (Fi.info57 _ _ _)) rfl ?_
    exact ⟨rfl, Bel.setRow hB.out (Nat.le_refl _) _⟩
  subst c2
  by_cases c3 : 1024 < (n1 : Int)
  · have X1 := hXe.out.symm.trans (P3.out rfl (Or.inl c3))
    subst X1
    clear hT hXe
    go_wp2_with (first
      | (with_reducible refine want_do (o := ⟨some 46, _, _, _, _, _⟩) rfl (Fi.exec57 rfl) ?_)
      | (with_reducible refine store_has (o := ⟨none, _, _, _, _, _⟩) rfl 79 (.tmp 2) (.tmp 46) rfl w.heap.size #[.slice none 0 0, .int .i64 0, .slice none 0 0] rfl rfl hG.out (Fi.info57 _ _ _) rfl (Fi.one57 _ _ _ _ _ _ _) ?_)
      | fail)
    refine bodyPost_ret (results_has2 rfl w.heap.size rfl (hG.out.row _) Try.underlying79 rfl (Fi.info57 _ _ _)) rfl ?_
    exact ⟨rfl, Bel.setRow hB.out (Nat.le_refl _) _⟩
  by_cases c4 : 64 < (n3 : Int)
  · have X1 := hXe.out.symm.trans (P3.out rfl (Or.inr c4))
    subst X1
    clear hT hXe
    go_wp2_with (first
      | (with_reducible refine want_do (o := ⟨some 46, _, _, _, _, _⟩) rfl (Fi.exec57 rfl) ?_)
      | (with_reducible refine store_has (o := ⟨none, _, _, _, _, _⟩) rfl 79 (.tmp 2) (.tmp 46) rfl w.heap.size #[.slice none 0 0, .int .i64 0, .slice none 0 0] rfl rfl hG.out (Fi.info57 _ _ _) rfl (Fi.one57 _ _ _ _ _ _ _) ?_)
      | fail)
    refine bodyPost_ret (results_has2 rfl w.heap.size rfl (hG.out.row _) Try.underlying79 rfl (Fi.info57 _ _ _)) rfl ?_
    exact ⟨rfl, Bel.setRow hB.out (Nat.le_refl _) _⟩
  have c34 : ¬ (1024 < (n1 : Int) ∨ 64 < (n3 : Int)) := by omega
  replace P4 := Lib.hid (P4.out rfl c34)
  replace P5 := Lib.hid (P5.out rfl c34)
  clear P2 P3
  have hm1' : m1 ≤ 1000000 := by omega
  by_cases c5 : m1 < 4 * n1
  · have X1 := hXe.out.symm.trans (P4.out (by omega))
    subst X1
    clear hXe
    go_wp2_with (fail)
    refine (Fi.takeWords_no (A := R1) (c := k1) (m := m1) hm1' n1 (by omega) c5).mono ?_; rintro e w4 ⟨rfl, hE⟩
    replace hB := Lib.hid (hB.out.trans (hE.mono hS))
    replace hG := Lib.hid (hG.out.below hE)
    clear hE hT
    go_wp2_with (first
      | (with_reducible refine want_do (o := ⟨some 57, _, _, _, _, _⟩) rfl (Fi.exec57 rfl) ?_)
      | (with_reducible refine store_has (o := ⟨none, _, _, _, _, _⟩) rfl 79 (.tmp 2) (.tmp 57) rfl w.heap.size #[.slice none 0 0, .int .i64 0, .slice none 0 0] rfl rfl hG.out (Fi.info57 _ _ _) rfl (Fi.one57 _ _ _ _ _ _ _) ?_)
      | fail)
    refine bodyPost_ret (results_has2 rfl w.heap.size rfl (hG.out.row _) Try.underlying79 rfl (Fi.info57 _ _ _)) rfl ?_
    exact ⟨rfl, Bel.setRow hB.out (Nat.le_refl _) _⟩
  replace P5 := Lib.hid (P5.out (by omega))
  obtain ⟨q1, hq1⟩ : ∃ q1, 4 * n1 = q1 := ⟨_, rfl⟩
  rw [hq1] at P5 c5
  have hT2 := hT.out.tail q1 (by omega)
  have hT2l := hT2.len
  obtain ⟨R2, hR2⟩ : ∃ R : Option Addr, Fi.at R1 k1 q1 = R := ⟨_, rfl⟩
  obtain ⟨m2, hm2⟩ : ∃ m2, m1 - q1 = m2 := ⟨_, rfl⟩
  obtain ⟨k2, hk2⟩ : ∃ k2, k1 - q1 = k2 := ⟨_, rfl⟩
  rw [hR2, hm2, hk2] at hT2
  rw [hm2] at hT2l
  generalize b1.drop q1 = b2 at *
  replace hT2 := Lib.hid hT2
  clear P4
  go_wp2_with (fail)
  refine (Fi.takeWords_q hT.out hm1' n1 q1 hq1 (by omega)).mono ?_; rintro e w4 ⟨A1', kk, c1'', rfl, hW, hE⟩
  rw [hR2, hm2, hk2]
  replace hB := Lib.hid (hB.out.trans (hE.mono hS))
  replace hG := Lib.hid (hG.out.below hE)
  replace hT2 := Lib.hid (hT2.out.below hE)
  replace hS : w.heap.size ≤ w4.heap.size := Nat.le_trans hS hE.size
  replace hW := Lib.hid hW
  clear hE hT hR2 hk2
  go_wp2_with (fail)
  refine (Fi.takeSyms_any hT2.out (by omega) n3 (by omega)).mono ?_; intro e w5 hq
  replace hXe := hXe.out.symm.trans P5.out
  clear P5
  cases hg : Fi.go n3 b2 with
  | error z =>
    rw [hg] at hq
    rw [hg] at hXe
    obtain ⟨rfl, hE⟩ := hq
    subst hXe
    have hz := Fi.go_nz _ _ _ hg
    have z1 : (z == 0) = false := by simpa using hz
    have z2 : (z != 0) = true := by simpa using hz
    replace hB := Lib.hid (hB.out.trans (hE.mono hS))
    replace hG := Lib.hid (hG.out.below hE)
    clear hE hT2 hW hg
    go_wp2_with (first
      | (with_reducible refine want_do (o := ⟨some 70, _, _, _, _, _⟩) rfl (Fi.exec57 rfl) ?_)
      | (with_reducible refine store_has (o := ⟨none, _, _, _, _, _⟩) rfl 79 (.tmp 2) (.tmp 70) rfl w.heap.size #[.slice none 0 0, .int .i64 0, .slice none 0 0] rfl rfl hG.out (Fi.info57 _ _ _) rfl (Fi.one57 _ _ _ _ _ _ _) ?_)
      | fail)
    refine bodyPost_ret (results_has2 rfl w.heap.size rfl (hG.out.row _) Try.underlying79 rfl (Fi.info57 _ _ _)) rfl ?_
    exact ⟨rfl, Bel.setRow hB.out (Nat.le_refl _) _⟩
  | ok p =>
    obtain ⟨ys, r⟩ := p
    rw [hg] at hq
    rw [hg] at hXe
    obtain ⟨C, f, B, d, rfl, hO, hE⟩ := hq
    replace hB := Lib.hid (hB.out.trans (hE.mono hS))
    replace hG := Lib.hid (hG.out.below hE)
    replace hW := Lib.hid (hW.out.below hE)
    replace hO := Lib.hid (hO.lower hS)
    obtain ⟨nr, hnr⟩ : ∃ nr, r.length = nr := ⟨_, rfl⟩
    simp only [hnr] at hXe
    rw [hnr]
    by_cases c6 : 0 < nr
    · rw [if_pos c6] at hXe
      subst hXe
      clear hE hT2 hW hg hO
      go_wp2_with (first
        | (with_reducible refine want_do (o := ⟨some 76, _, _, _, _, _⟩) rfl (Fi.exec57 rfl) ?_)
        | (with_reducible refine store_has (o := ⟨none, _, _, _, _, _⟩) rfl 79 (.tmp 2) (.tmp 76) rfl w.heap.size #[.slice none 0 0, .int .i64 0, .slice none 0 0] rfl rfl hG.out (Fi.info57 _ _ _) rfl (Fi.one57 _ _ _ _ _ _ _) ?_)
        | fail)
      refine bodyPost_ret (results_has2 rfl w.heap.size rfl (hG.out.row _) Try.underlying79 rfl (Fi.info57 _ _ _)) rfl ?_
      exact ⟨rfl, Bel.setRow hB.out (Nat.le_refl _) _⟩
    · rw [if_neg c6] at hXe
      subst hXe
      obtain ⟨ny, hny⟩ : ∃ ny, ys.length = ny := ⟨_, rfl⟩
      have hO2 : Hid (Os 54 w.heap.size C ny f ys w5) := Lib.hid (by rw [← hny]; exact hO.out)
      rw [hny]
      have hx1 := hr2.1
      have hx2 := hr2.2
      clear hE hT2 hg hO
      go_wp2_with (first
        | (with_reducible refine store_has (o := ⟨none, _, _, _, _, _⟩) rfl 79 (.tmp 2) (.tmp 81) rfl w.heap.size #[.slice A1' kk c1'', .int .i64 x2, .slice C ny f] rfl rfl hG.out (Fi.info57 _ _ _) rfl (Fi.one57 _ _ _ _ _ _ _) ?_)
        | fail)
      refine bodyPost_ret (results_has2 rfl w.heap.size rfl (hG.out.row _) Try.underlying79 rfl (Fi.info57 _ _ _)) rfl ?_
      have hB6 := Bel.setRow hB.out (Nat.le_refl _) #[.slice A1' kk c1'', .int .i64 x2, .slice C ny f]
      have hW6 := hW.out.rowOff hG.out (fun v hv x e => by simp [e] at hv) #[.slice A1' kk c1'', .int .i64 x2, .slice C ny f]
      have hO6 := hO2.out.otherRow hG.out (by decide) #[.slice A1' kk c1'', .int .i64 x2, .slice C ny f]
      show ∃ A n c C' f', _ ∧ _
      rw [hny]
      exact ⟨A1', kk, c1'', C, f, rfl, hW6, hO6, hB6⟩
end Go.Proofs.Ytpfejjkoemnmiaa
