/-
  The contract of the document's TakeName; the document's example, the head of all laws.
-/
import Derived.Test.YtmdknjfhdmigdaaLe5
namespace Go.Proofs.Ytmdknjfhdmigdaa
open Go.RowKit
set_option linter.unusedVariables false
set_option linter.unusedSimpArgs false
set_option maxRecDepth 100000
set_option maxHeartbeats 2000000 in
set_option maxRecDepth 100000 in
theorem L.rtakeName_any {w : World} {A : Option Addr} {n c : Nat} {bs : List Int} (h : By w A n c bs) (hn : n ≤ 1000000) :
    Calls Try.prog 30 #[.slice A n c] w fun e w' => e = .returned (L.tnV bs) ∧ Below w.heap.size w w' := by
  have hl := h.len
  have hle := h.le
  have hn1 : (n : Int) ≤ 1000000 := by omega
  by_cases c0 : n = 0
  · subst c0
    rw [L.tnV_not (L.tnE_short (Or.inl hl)) (by decide)]
    clear h
    go_enter Try.func30, Try.ntmps30
    go_wp2
    go_ret3
    exact ⟨rfl, Below.refl _ _⟩
  obtain ⟨b, off, rfl⟩ := h.place (by omega)
  have c1 : ¬ (n : Int) = 0 := by omega
  have c2 : ((n : Int) == 0) = false := by simpa using c1
  obtain ⟨x, hx⟩ : ∃ x, bs[0]? = some x := ⟨_, List.getElem?_eq_getElem (by omega)⟩
  have hxr := h.rng x (List.mem_of_getElem? hx)
  have hg0 := h.cellAt 0 x hx
  rw [Nat.add_zero] at hg0
  have hf : (L.first bs : Int) = x := by
    unfold L.first
    rw [List.getD_eq_getElem?_getD, hx]
    show (x.toNat : Int) = x
    omega
  have hk0 : (0 : Int) < (n : Int) := by omega
  have hE1 := Lib.hid (fun h1 => L.tnV_not (L.tnE_short (bs := bs) (Or.inr h1)) (by decide))
  have hE2 := Lib.hid (fun h1 h2 => L.tnV_not (L.tnE_name (bs := bs) (by omega) h1 h2) (by decide))
  have hE3 := Lib.hid (fun h1 h2 h3 => L.tnV_not (L.tnE_form (bs := bs) (by omega) h1 h2 h3) (by decide))
  have hE4 := Lib.hid (fun h1 h2 h3 => L.tnV_ok (L.tnE_ok (bs := bs) (by omega) h1 h2 h3))
  have hXd : L.tnX bs = (bs.take (1 + L.first bs)).drop 1 := rfl
  have hXb := Lib.hid (L.tnX_byt h.rng)
  generalize L.first bs = f at *
  subst hf
  have hw := L.whole_le f
  have hNd : (((f : Int) + 4) / 4 * 4) = ((L.whole f : Nat) : Int) := by unfold L.whole; omega
  generalize L.whole f = N at *
  have hf1 : (f : Int) < 256 := hxr.2
  by_cases c3 : n < N
  · rw [hE1.out (by omega)]
    have c4 : (n : Int) < N := by omega
    clear hE1 hE2 hE3 hE4 h hXd hXb
    go_enter Try.func30, Try.ntmps30
    go_wp2
    go_ret3
    exact ⟨rfl, Below.refl _ _⟩
  have c4 : ¬ (n : Int) < N := by omega
  have hX := h.sub 1 (1 + f) (by omega) (by omega)
  rw [← hXd, show 1 + f - 1 = f by omega] at hX
  generalize hY : L.tnX bs = ys at *
  have hyl : ys.length = f := hX.len
  have CN := Lib.hid (fun w => L.rname_any (strOfNums ys) (by rw [strOfNums_size]; omega) w)
  rw [L.bs_str ys hXb.out] at CN
  have H := Lib.hid h
  replace hX := Lib.hid hX
  replace hg0 := Lib.hid hg0
  clear h hXd hXb hx
  generalize hZ : (bs.take N).drop (1 + f) = zs at *
  have hzl : zs.length = N - (1 + f) := by rw [← hZ]; simp; omega
  have hzc := Lib.hid (fun (k : Nat) (z : Int) (hz : zs[k]? = some z) => (show w.cell? ⟨b, off + (1 + f + k), none⟩ = some (.int .u8 z) from H.out.cellAt (1 + f + k) z (by
    rw [← hZ, List.getElem?_drop, List.getElem?_take] at hz
    split at hz
    · exact hz
    · cases hz)))
  have hb := H.out.lt (by omega)
  have hl1 : ¬ bs.length < N := by omega
  replace hE2 := Lib.hid (hE2.out hl1)
  replace hE3 := Lib.hid (hE3.out hl1)
  replace hE4 := Lib.hid (hE4.out hl1)
  clear hE1 hY hZ H hl1 hl
  have hc1 : (1 : Int) + f ≤ N := by omega
  have hc2 : (N : Int) ≤ n := by omega
  replace hg0 := hg0.out
  have k1 : 0 ≤ 1 + (f : Int) ∧ 1 + (f : Int) ≤ (c : Int) := by omega
  have k3 : 1 ≤ max (1 + (f : Int)) 0 := by omega
  have k4 : ¬ c = 1 := by omega
  have k5 : (1 + (f : Int)).toNat - 1 = f := by omega
  go_enter Try.func30, Try.ntmps30
  go_wp2_with (with_reducible refine want_do (o := ⟨some 28, _, _, _, _, _⟩) rfl (exec_text Try.underlying27 Try.underlying5 Try.underlying9 (.tmp 27) rfl rfl hX.out) ?_)
  clear k1 k3 k4 k5 hX hg0
  refine (CN.out _).mono ?_; rintro e w' ⟨rfl, rfl⟩
  clear CN
  cases p : L.name ys with
  | false =>
    replace hE2 := Lib.hid (hE2.out p)
    go_wp2
    go_ret3
    exact ⟨congrArg Ending.returned hE2.out.symm, Below.refl _ _⟩
  | true =>
    replace hE3 := Lib.hid (hE3.out p)
    replace hE4 := Lib.hid (hE4.out p)
    go_wp2
    go_loopw [8] (fun i wr => ∃ k : Nat, 1 + f + k ≤ N ∧ i = .int .i64 ((1 + f + k : Nat) : Int) ∧ (zs.take k).all (fun x => decide (x = 0)) = true ∧ w = wr) (fun i _ => N - (intOf i).toNat)
    case atStart => exact ⟨0, by omega, by go_num, rfl, rfl⟩
    case round =>
      obtain ⟨k, hk, rfl, ht, rfl⟩ := hrel
      by_cases d1 : 1 + f + k < N
      · have d2 : ((1 + f + k : Nat) : Int) < N := by omega
        obtain ⟨z, hz⟩ : ∃ z, zs[k]? = some z := ⟨_, List.getElem?_eq_getElem (by omega)⟩
        have g1 := hzc.out k z hz
        by_cases e1 : z = 0
        · have R := Lib.hid (all_step ht hz (show decide (z = 0) = true from decide_eq_true e1))
          subst e1
          clear ht hz hzc
          generalize hq : 1 + f + k = q at *
          have hp2 : (q : Int) < n := by omega
          go_wp2
          go_roundw
          case rel => exact ⟨k + 1, by omega, by rw [show 1 + f + (k + 1) = q + 1 by omega]; go_num, R.out, by trivial⟩
          case measure => simp [intOf]; omega
        · have R := Lib.hid (all_not (p := fun x => decide (x = 0)) hz (decide_eq_false e1))
          have e2 : (z != 0) = true := by simpa using e1
          have e3 : (z == 0) = false := by simpa using e1
          replace hE3 := Lib.hid (hE3.out R.out)
          clear ht hz hzc
          generalize hq : 1 + f + k = q at *
          have hp2 : (q : Int) < n := by omega
          go_wp2
          go_ret3
          exact ⟨congrArg Ending.returned hE3.out.symm, Below.refl _ _⟩
      · have d2 : ¬ ((1 + f + k : Nat) : Int) < N := by omega
        rw [List.take_of_length_le (by omega)] at ht
        replace hE4 := Lib.hid (hE4.out ht)
        clear ht
        generalize hq : 1 + f + k = q at *
        go_wp2
        go_ret3
        exact ⟨congrArg Ending.returned hE4.out.symm, Below.refl _ _⟩
theorem Rw.of {k : IntKind} {L : Int} {w : World} {g : Nat} {t : TypeId} (xs : List Int) (h : Has g (xs.map (Value.int k)).toArray t w) (hm : xs.length ≤ maxLen) (hr : ∀ x ∈ xs, 0 ≤ x ∧ x < L) : Rw k L w (some ⟨g, 0, none⟩) xs.length xs.length xs :=
  ⟨rfl, Nat.le_refl _, hm, by simp, hr, fun ad e j y hy => by
    cases e
    rw [show (⟨g, 0, none⟩ : Addr).add j = ⟨g, j, none⟩ by cases j <;> simp [Addr.add]]
    exact h.cell j _ (by rw [List.getElem?_toArray, List.getElem?_map, hy]; rfl)⟩
theorem L.shown_1 : L.pnE (L.bs ⟨#[97, 98]⟩) = 0 ∧ L.pnB (L.bs ⟨#[97, 98]⟩) = [2, 97, 98, 0] := by decide
theorem L.shown_2 : L.tnV [2, 97, 98, 0, 9] = .tuple #[.string ⟨#[97, 98]⟩, .int .i64 4, .int .i64 0] := by
  rw [L.tnV_ok (by decide)]; rfl
theorem L.shown_3 : L.put [67305985] = [1, 2, 3, 4] := by decide
theorem L.shown_4 : strOfNums [2, 97, 98, 0] = ⟨#[2, 97, 98, 0]⟩ := rfl
theorem L.shown_5 : strOfNums [1, 2, 3, 4] = ⟨#[1, 2, 3, 4]⟩ := rfl
end Go.Proofs.Ytmdknjfhdmigdaa
