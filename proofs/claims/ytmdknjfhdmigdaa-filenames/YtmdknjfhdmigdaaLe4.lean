/-
  The contracts of PutName, TakeName of package le and of the document's, and of the document's Fit.
-/
import Derived.Test.YtmdknjfhdmigdaaLe3
import Derived.Test.YtmdknjfhdmigdaaStill0
namespace Go.Proofs.Ytmdknjfhdmigdaa
open Go.RowKit
set_option linter.unusedVariables false
set_option linter.unusedSimpArgs false
set_option maxRecDepth 100000
section
variable {P : Program} {ops : Array Oper} {rest : List Oper} {o : Oper} {a : Act} {Q : Exit → Act → World → Prop} {w : World}
/-- copy of a string into a row of the call's own -/
theorem copy_own {e t u : TypeId} (hu : P.underlying t = some (.slice e)) (hs1 : (P.info? e).map (·.size) = some 1) (hgd : o.guard = none) (d x : Operand)
    (ho : o.op = .call { callee := .builtin .copy, args := #[d, x], argTypes := #[t, u] }) (base g off dl dc : Nat) (S : ByteArray) (hd : a.eval d = .slice (some ⟨g, off, none⟩) dl dc) (hx : a.eval x = .string S)
    {e' : TypeId} {n cap : Nat} {xs : List Int} (hO : Ow e' .u8 base g n cap xs w) (hle : S.size ≤ dl) (hfit : off + S.size ≤ n)
    (h : ∀ w', Ow e' .u8 base g n cap (xs.take off ++ L.bs S ++ xs.drop (off + S.size)) w' → Below g w w' → wpList P ops Q rest (a.put o.dst (.int .i64 S.size)) w') : wpList P ops Q (o :: rest) a w := by
  obtain ⟨h1, h2, h3, h4, cur, h5, h6, h7⟩ := hO.has
  have hb := L.bs_len S
  refine copy_text hu hs1 hgd d x ho g off dl dc S hd hx h5 hle (by omega) (h _ ?_ ?_)
  · refine Ow.mk' h1 h2 h3 (by simp; omega) _ (h5.row _) (by simp; omega) ?_
    have e1 : cur.toList.take off = (xs.take off).map (Value.int .u8) := by
      rw [List.map_take, ← h7, List.take_take, Nat.min_eq_left (by omega)]
    have e2 : (cur.toList.drop (off + S.size)).take (n - (off + S.size)) = (xs.drop (off + S.size)).map (Value.int .u8) := by
      rw [List.take_drop, show off + S.size + (n - (off + S.size)) = n by omega, h7, List.map_drop]
    rw [List.map_append, List.map_append, ← e1, ← e2]
    simp only
    rw [List.take_append]
    rw [List.take_of_length_le (by simp; omega)]
    congr 2
    simp
    omega
  · exact ⟨rfl, rfl, rfl, by simp [World.setRow], fun k hk => setRow_other w g k _ (by omega)⟩
theorem still_value {v : Value} {K : Act → Prop} (he : (execOp a.eval o).run P w = .ok (.value v) w) (h : K (a.put o.dst v)) : o.still P a w K := by
  unfold Oper.still
  rw [he]
  exact ⟨rfl, h⟩
end
theorem L.nameB_copy (xs : List Int) : ((List.replicate (L.whole xs.length) (0 : Int)).set 0 (xs.length : Int)).take 1 ++ xs ++ ((List.replicate (L.whole xs.length) (0 : Int)).set 0 (xs.length : Int)).drop (1 + xs.length) = L.nameB xs := by
  have h := L.whole_le xs.length
  obtain ⟨m, hm⟩ : ∃ m, L.whole xs.length = m + 1 := ⟨L.whole xs.length - 1, by omega⟩
  unfold L.nameB
  rw [hm, List.replicate_succ, List.set_cons_zero]
  rw [show 1 + xs.length = xs.length + 1 by omega, List.drop_succ_cons, List.drop_replicate]
  simp
theorem L.name_size {s : ByteArray} (h : L.name (L.bs s) = true) : 1 ≤ s.size ∧ s.size ≤ 12 := by
  have := L.name_len h
  rwa [L.bs_len] at this
set_option maxRecDepth 100000 in
theorem L.putName_yes (s : ByteArray) (h : L.name (L.bs s) = true) (w : World) :
    Calls Try.prog 22 #[.string s] w fun e w' => ∃ g cap, e = .returned (.tuple #[.slice (some ⟨g, 0, none⟩) (L.whole s.size) cap, .int .i64 0]) ∧ By w' (some ⟨g, 0, none⟩) (L.whole s.size) cap (L.nameB (L.bs s)) ∧ Below w.heap.size w w' := by
  have hl := L.bs_len s
  have hn := L.name_size h
  have C := Lib.hid (fun w => L.name_any s (by omega) w)
  rw [h] at C
  have CW := Lib.hid (fun w => L.whole_any s.size (by omega) w)
  have R := L.nameB_copy (L.bs s)
  rw [hl] at R
  have hw := L.whole_le s.size
  have hr := L.nameB_byt (L.bs s) (L.bs_rng s) (by omega)
  replace R := Lib.hid R
  replace hr := Lib.hid hr
  generalize hN : L.whole s.size = N at *
  have hs1 : (s.size : Int) ≤ 12 := by omega
  have hN1 : (N : Int) ≤ 17 := by omega
  have hN2 : (1 : Int) ≤ (N : Int) := by omega
  clear hN h
  go_enter Try.func22, Try.ntmps22
  go_wp2_with (fail)
  refine (C.out w).mono ?_; rintro e w2 ⟨rfl, rfl⟩
  go_wp2_with (fail)
  refine (CW.out w).mono ?_; rintro e w2 ⟨rfl, rfl⟩
  have hO := Ow.full 5 .u8 w N (by unfold maxLen; omega)
  have hB := Lib.hid (((Kept.refl w).alloc (madeCells #[.int .u8 0] N) 5).below)
  obtain ⟨v, hv⟩ := hO.cell 0 (by omega)
  have hf := hO.free 0
  replace hO := Lib.hid (hO.set 0 (s.size : Int))
  generalize hG : w.heap.size = g at *
  replace hB := Lib.hid (hB.out.setCell (p := ⟨g, 0, none⟩) (Nat.le_refl _) (.int .u8 (s.size : Int)))
  go_upto_region 4 with (with_reducible refine make_rows rfl (.tmp 10) (.tmp 10) 27 rfl 5 Try.underlying27 L.info8 N N _ _ rfl rfl rfl rfl (Nat.le_refl _) (by omega) (by unfold maxLen; omega) ?_)
  generalize w.alloc (.cells (madeCells #[Value.int .u8 0] N) 5) = w1 at *
  go_wp2_with (with_reducible refine copy_own (o := ⟨some 20, _, _, _, _, _⟩) Try.underlying27 (by kernel_rfl) rfl (.tmp 18) (.tmp 19) rfl g g 1 (N - 1) (N - 1) s rfl rfl hO.out (by omega) (by omega) ?_; intro w3 hO3 hB3)
  rw [R.out] at hO3
  have hF := Lib.hid (hO3.rw (L := 256) hr.out)
  replace hB := Lib.hid (hB.out.trans hB3)
  clear hO3 hB3 hO hv hf
  go_wp2
  go_ret2
  exact ⟨g, N, rfl, hF.out, by rw [hG]; exact hB.out⟩
theorem L.putName_any (s : ByteArray) (hs : s.size ≤ 1000000) (w : World) :
    Calls Try.prog 22 #[.string s] w fun e w' => ∃ A n cap, e = .returned (.tuple #[.slice A n cap, .int .i64 (L.pnE (L.bs s))]) ∧ By w' A n cap (L.pnB (L.bs s)) ∧ Below w.heap.size w w' := by
  unfold L.pnE L.pnB
  by_cases h : L.name (L.bs s) = true
  · rw [if_pos h, if_pos h]
    refine (L.putName_yes s h w).mono ?_
    rintro e w' ⟨g, cap, rfl, h1, h2⟩
    exact ⟨_, _, _, rfl, h1, h2⟩
  · rw [if_neg h, if_neg h]
    have C := Lib.hid (fun w => L.name_any s hs w)
    rw [Bool.not_eq_true] at h
    rw [h] at C
    clear h
    go_enter Try.func22, Try.ntmps22
    go_wp2_with (fail)
    refine (C.out w).mono ?_; rintro e w2 ⟨rfl, rfl⟩
    go_wp2
    go_ret2
    exact ⟨none, 0, 0, rfl, Rw.empty _ _ _, Below.refl _ _⟩
theorem L.whole_more (n q : Nat) (hq : 1 + n + q ≤ L.whole n) : (1 + n + q) % 4 = 0 → 1 + n + q = L.whole n := by
  have := L.whole_le n
  unfold L.whole at *
  omega
theorem L.whole_less (n q : Nat) (hq : 1 + n + q ≤ L.whole n) : ¬ (1 + n + q) % 4 = 0 → 1 + n + (q + 1) ≤ L.whole n := by
  have := L.whole_le n
  unfold L.whole at *
  omega
set_option maxRecDepth 100000 in
theorem L.rputName_yes (s : ByteArray) (h : L.name (L.bs s) = true) (w : World) :
    Calls Try.prog 26 #[.string s] w fun e w' => ∃ g cap, e = .returned (.tuple #[.slice (some ⟨g, 0, none⟩) (L.whole s.size) cap, .int .i64 0]) ∧ By w' (some ⟨g, 0, none⟩) (L.whole s.size) cap (L.nameB (L.bs s)) ∧ Below w.heap.size w w' := by
  have hl := L.bs_len s
  have hn := L.name_size h
  have C := Lib.hid (fun w => L.rname_any s (by omega) w)
  rw [h] at C
  have hw := L.whole_le s.size
  have hr := Lib.hid (L.nameB_byt (L.bs s) (L.bs_rng s) (by omega))
  have hs1 : (s.size : Int) ≤ 12 := by omega
  have hO := Lib.hid (Ow.one 5 .u8 (s.size : Int) w w.heap.size (Nat.le_refl _))
  have hB := Lib.hid (((Kept.refl w).alloc #[.int .u8 (s.size : Int)] 5).below)
  have hz : w.heap.size ≤ (w.alloc (.cells #[.int .u8 (s.size : Int)] 5)).heap.size := by simp
  have hm1 := Lib.hid (fun q hq => L.whole_more s.size q hq)
  have hm2 := Lib.hid (fun q hq => L.whole_less s.size q hq)
  have hE := Lib.hid (fun (q : Nat) (hq : L.whole s.size - (1 + s.size) = q) => (show [(s.size : Int)] ++ L.bs s ++ List.replicate q 0 = L.nameB (L.bs s) by unfold L.nameB; rw [hl, hq]; rfl))
  clear h
  generalize L.whole s.size = M at *
  go_enter Try.func26, Try.ntmps26
  go_wp2_with (fail)
  refine (C.out w).mono ?_; rintro e w2 ⟨rfl, rfl⟩
  go_wp2_with (with_reducible refine append_text (o := ⟨some 13, _, _, _, _, _⟩) Try.underlying27 Try.underlying9 L.info8 rfl (.tmp 11) (.tmp 12) rfl w.heap.size w.heap.size 1 1 [(s.size : Int)] rfl hO.out s rfl (by omega) hz ?_; intro g cap w3 hO3 hG3)
  have hB3 := Lib.hid (hB.out.grown hG3 hz (fun q e => by cases e; exact Nat.le_refl _))
  replace hO3 := Lib.hid hO3
  clear hO hB hG3 hz
  go_loopw [4] (fun o wr => ∃ q g cap : Nat, 1 + s.size + q ≤ M ∧ o = .slice (some ⟨g, 0, none⟩) (1 + s.size + q) cap ∧ Ow 5 .u8 w.heap.size g (1 + s.size + q) cap ([(s.size : Int)] ++ L.bs s ++ List.replicate q 0) wr ∧ Below w.heap.size w wr) (fun o _ => 20 - (match o with | .slice _ n _ => n | _ => 0))
  case atStart => exact ⟨0, g, cap, by omega, rfl, by rw [List.replicate_zero, List.append_nil]; exact hO3.out, hB3.out⟩
  case round =>
    clear hO3 hB3
    obtain ⟨q, g, cap, hq, rfl, hO, hB⟩ := hrel
    have m1 := hm1.out q hq
    have m2 := hm2.out q hq
    by_cases d1 : (1 + s.size + q) % 4 = 0
    · have m3 := m1 d1
      rw [hE.out q (by omega)] at hO
      have R := Lib.hid (hO.rw (L := 256) hr.out)
      rw [m3] at R ⊢
      replace hB := Lib.hid hB
      have d2 : (M : Int) % 4 = 0 := by omega
      clear hO m1 m2 m3 d1
      have d3 : ((M : Int) % 4 != 0) = false := by rw [d2]; rfl
      go_wp2
      go_ret2
      exact ⟨g, cap, rfl, R.out, hB.out⟩
    · have m3 := m2 d1
      have d2 : ¬ ((1 + s.size + q : Nat) : Int) % 4 = 0 := by omega
      have d3 : (((1 + s.size + q : Nat) : Int) % 4 != 0) = true := by simpa using d2
      have hg := hO.has.1
      have hA1 := ((Kept.refl wr).alloc #[.int .u8 0] 5).below
      have hs0 : w.heap.size ≤ (wr.alloc (.cells #[.int .u8 0] 5)).heap.size := by have := hB.size; simp; omega
      have hY := Lib.hid (Rw.one (L := 256) (Has.new #[.int .u8 0] 5 wr) (by omega) (by omega))
      have R := Lib.hid (show ([(s.size : Int)] ++ L.bs s ++ List.replicate q 0) ++ [0] = [(s.size : Int)] ++ L.bs s ++ List.replicate (q + 1) 0 by rw [List.append_assoc, ← List.replicate_succ'])
      replace hO := Lib.hid (hO.below hA1)
      replace hB := Lib.hid (hB.trans (hA1.mono hB.size))
      clear hA1 m1 m2 d1
      generalize hM : 1 + s.size + q = T at *
      go_wp2_with (with_reducible refine append_row (o := ⟨some 20, _, _, _, _, _⟩) (L := 256) Try.underlying27 L.info8 (by omega) rfl (.tmp 18) (.tmp 19) rfl w.heap.size g T cap _ rfl hO.out _ 1 1 [0] rfl hY.out (by omega) hs0 ?_; intro g3 cap3 w3 hO3 hG3)
      rw [R.out] at hO3
      have hB3 := Lib.hid (hB.out.grown hG3 hs0 (fun q e => by cases e; exact hg))
      replace hO3 := Lib.hid hO3
      clear hG3 hO hB hY hs0
      go_wp2
      go_roundw
      case rel => exact ⟨q + 1, g3, cap3, by omega, by rw [← hM]; rfl, by rw [show 1 + s.size + (q + 1) = T + 1 by omega]; exact hO3.out, hB3.out⟩
      case measure => simp; omega
theorem L.rputName_any (s : ByteArray) (hs : s.size ≤ 1000000) (w : World) :
    Calls Try.prog 26 #[.string s] w fun e w' => ∃ A n cap, e = .returned (.tuple #[.slice A n cap, .int .i64 (L.pnE (L.bs s))]) ∧ By w' A n cap (L.pnB (L.bs s)) ∧ Below w.heap.size w w' := by
  unfold L.pnE L.pnB
  by_cases h : L.name (L.bs s) = true
  · rw [if_pos h, if_pos h]
    refine (L.rputName_yes s h w).mono ?_
    rintro e w' ⟨g, cap, rfl, h1, h2⟩
    exact ⟨_, _, _, rfl, h1, h2⟩
  · rw [if_neg h, if_neg h]
    have C := Lib.hid (fun w => L.rname_any s hs w)
    rw [Bool.not_eq_true] at h
    rw [h] at C
    clear h
    go_enter Try.func26, Try.ntmps26
    go_wp2_with (fail)
    refine (C.out w).mono ?_; rintro e w2 ⟨rfl, rfl⟩
    go_wp2
    go_ret2
    exact ⟨none, 0, 0, rfl, Rw.empty _ _ _, Below.refl _ _⟩
end Go.Proofs.Ytmdknjfhdmigdaa
