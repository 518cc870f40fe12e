/-
  Joined: Still0, Le4, Le5.
-/
import Derived.StillTailTactics
import Derived.Test.YtpfejjkoemnmiaaLe3
/-
  A region that draws its order, whose operations but for a tail only read, behind a wall through which no tactic looks: an operation is taken, or passed over where its guard says no. No Go text is named here.
-/
namespace Go.Proofs.Ytpfejjkoemnmiaa
set_option linter.unusedVariables false
section
variable {P : Program} {ops : Array Oper} {w : World} {Q : Act → Prop} {a : Act} {o : Oper} {rest : List Oper}
structure WS (P : Program) (ops : Array Oper) (w : World) (Q : Act → Prop) (l : List Oper) (a : Act) : Prop where
  out : wpStill P ops w Q l a
theorem WS.skip (hw : Region.wanted o (yielded ops a.tmps) = false) (h : WS P ops w Q rest (a.put o.dst undef)) : WS P ops w Q (o :: rest) a := by
  constructor
  unfold wpStill
  rw [if_neg (by rw [hw]; decide)]
  exact h.out
theorem WS.want (hw : Region.wanted o (yielded ops a.tmps) = true) (h : ∀ K : Act → Prop, (∀ a, WS P ops w Q rest a → K a) → o.still P a w K) : WS P ops w Q (o :: rest) a := by
  constructor
  unfold wpStill
  rw [if_pos hw]
  exact Oper.still_mono (fun _ h => h.out) (h (WS P ops w Q rest) (fun _ h => h))
theorem WS.step (hg : o.guard = none) (h : ∀ K : Act → Prop, (∀ a, WS P ops w Q rest a → K a) → o.still P a w K) : WS P ops w Q (o :: rest) a :=
  WS.want (by simp [Region.wanted, hg]) h
theorem WS.nil (h : Q a) : WS P ops w Q [] a := ⟨h⟩
theorem WS.start {id : Nat} {Q : Exit → Act → World → Prop} {a : Act} {w : World} {l : List Oper} (n : Nat) (hm : P.follows .mixedOrders = true) (hB : Region.lexTailB .any l.toArray n = true)
    (h : ∀ w', w' = w.drew → WS P l.toArray w' (fun a' => wpList P l.toArray Q (l.drop n) a' w') (l.take n) a) : (Code.region id l.toArray true).wp P Q a w :=
  wp_region_still_tail n hm hB (h _ rfl).out
end
end Go.Proofs.Ytpfejjkoemnmiaa
/-
  The contracts of PutName, TakeName of package le and of the document's, and of the document's Fit.
-/
namespace Go.Proofs.Ytpfejjkoemnmiaa
open Go.RowKit
set_option linter.unusedVariables false
set_option linter.unusedSimpArgs false
set_option maxRecDepth 100000
set_option maxRecDepth 100000
section
variable {P : Program} {ops : Array Oper} {rest : List Oper} {o : Oper} {a : Act} {Q : Exit → Act → World → Prop} {w : World}
/-- copy of a string into a row of the call's own -/
theorem copy_own {e t u : TypeId} (hu : P.underlying t = some (.slice e)) (hs1 : (P.info? e).map (·.size) = some 1) (hgd : o.guard = none) (d x : Operand)
    (ho : o.op = .call { callee := .builtin .copy, args := #[d, x], argTypes := #[t, u] }) (base g off dl dc : Nat) (S : ByteArray) (hd : a.eval d = .slice (some ⟨g, off, none⟩) dl dc) (hx : a.eval x = .string S)
    {e' : TypeId} {n cap : Nat} {xs : List Int} (hO : Ow e' .u8 base g n cap xs w) (hle : S.size ≤ dl) (hfit : off + S.size ≤ n)
    (h : ∀ w', Ow e' .u8 base g n cap (xs.take off ++ L.bs S ++ xs.drop (off + S.size)) w' → Below g w w' → wpList P ops Q rest (a.put o.dst (.int .i64 S.size)) w') : wpList P ops Q (o :: rest) a w := by
  obtain ⟨h1, h2, h3, h4, cur, h5, h6, h7⟩ := hO.has
  have hb := L.bs_len S
  refine copy_text hu hs1 hgd d x ho g off dl dc S hd hx h5 hle (by omega) (h _ ?_ ?_)
  · refine Ow.mk' h1 h2 h3 (by simp; omega) _ (h5.row _) (by simp; omega) ?_
    have e1 : cur.toList.take off = (xs.take off).map (Value.int .u8) := by
      rw [List.map_take, ← h7, List.take_take, Nat.min_eq_left (by omega)]
    have e2 : (cur.toList.drop (off + S.size)).take (n - (off + S.size)) = (xs.drop (off + S.size)).map (Value.int .u8) := by
      rw [List.take_drop, show off + S.size + (n - (off + S.size)) = n by omega, h7, List.map_drop]
    rw [List.map_append, List.map_append, ← e1, ← e2]
    simp only
    rw [List.take_append]
    rw [List.take_of_length_le (by simp; omega)]
    congr 2
    simp
    omega
  · exact ⟨rfl, rfl, rfl, by simp [World.setRow], fun k hk => setRow_other w g k _ (by omega)⟩
theorem still_value {v : Value} {K : Act → Prop} (he : (execOp a.eval o).run P w = .ok (.value v) w) (h : K (a.put o.dst v)) : o.still P a w K := by
  unfold Oper.still
  rw [he]
  exact ⟨rfl, h⟩
end
theorem L.nameB_copy (xs : List Int) : ((List.replicate (L.whole xs.length) (0 : Int)).set 0 (xs.length : Int)).take 1 ++ xs ++ ((List.replicate (L.whole xs.length) (0 : Int)).set 0 (xs.length : Int)).drop (1 + xs.length) = L.nameB xs := by
  have h := L.whole_le xs.length
  obtain ⟨m, hm⟩ : ∃ m, L.whole xs.length = m + 1 := ⟨L.whole xs.length - 1, by omega⟩
  unfold L.nameB
  rw [hm, List.replicate_succ, List.set_cons_zero]
  rw [show 1 + xs.length = xs.length + 1 by omega, List.drop_succ_cons, List.drop_replicate]
  simp
theorem L.name_size {s : ByteArray} (h : L.name (L.bs s) = true) : 1 ≤ s.size ∧ s.size ≤ 12 := by
  have := L.name_len h
  rwa [L.bs_len] at this
set_option maxRecDepth 100000 in
theorem L.putName_yes (s : ByteArray) (h : L.name (L.bs s) = true) (w : World) :
    Calls Try.prog 38 #[.string s] w fun e w' => ∃ g cap, e = .returned (.tuple #[.slice (some ⟨g, 0, none⟩) (L.whole s.size) cap, .int .i64 0]) ∧ By w' (some ⟨g, 0, none⟩) (L.whole s.size) cap (L.nameB (L.bs s)) ∧ Below w.heap.size w w' := by
  have hl := L.bs_len s
  have hn := L.name_size h
  have C := Lib.hid (fun w => L.name_any s (by omega) w)
  rw [h] at C
  have CW := Lib.hid (fun w => L.whole_any s.size (by omega) w)
  have R := L.nameB_copy (L.bs s)
  rw [hl] at R
  have hw := L.whole_le s.size
  have hr := L.nameB_byt (L.bs s) (L.bs_rng s) (by omega)
  replace R := Lib.hid R
  replace hr := Lib.hid hr
  generalize hN : L.whole s.size = N at *
  have hs1 : (s.size : Int) ≤ 12 := by omega
  have hN1 : (N : Int) ≤ 17 := by omega
  have hN2 : (1 : Int) ≤ (N : Int) := by omega
  clear hN h
  go_enter Try.func38, Try.ntmps38
  go_wp2_with (fail)
  refine (C.out w).mono ?_; rintro e w2 ⟨rfl, rfl⟩
  go_wp2_with (fail)
  refine (CW.out w).mono ?_; rintro e w2 ⟨rfl, rfl⟩
  have hO := Ow.full 5 .u8 w N (by unfold maxLen; omega)
  have hB := Lib.hid (((Kept.refl w).alloc (madeCells #[.int .u8 0] N) 5).below)
  obtain ⟨v, hv⟩ := hO.cell 0 (by omega)
  have hf := hO.free 0
  replace hO := Lib.hid (hO.set 0 (s.size : Int))
  generalize hG : w.heap.size = g at *
  replace hB := Lib.hid (hB.out.setCell (p := ⟨g, 0, none⟩) (Nat.le_refl _) (.int .u8 (s.size : Int)))
  go_upto_region 4 with (with_reducible refine make_rows rfl (.tmp 10) (.tmp 10) 42 rfl 5 Try.underlying42 L.info8 N N _ _ rfl rfl rfl rfl (Nat.le_refl _) (by omega) (by unfold maxLen; omega) ?_)
  generalize w.alloc (.cells (madeCells #[Value.int .u8 0] N) 5) = w1 at *
  go_wp2_with (with_reducible refine copy_own (o := ⟨some 20, _, _, _, _, _⟩) Try.underlying42 (by kernel_rfl) rfl (.tmp 18) (.tmp 19) rfl g g 1 (N - 1) (N - 1) s rfl rfl hO.out (by omega) (by omega) ?_; intro w3 hO3 hB3)
  rw [R.out] at hO3
  have hF := Lib.hid (hO3.rw (L := 256) hr.out)
  replace hB := Lib.hid (hB.out.trans hB3)
  clear hO3 hB3 hO hv hf
  go_wp2
  go_ret2
  exact ⟨g, N, rfl, hF.out, by rw [hG]; exact hB.out⟩
theorem L.putName_any (s : ByteArray) (hs : s.size ≤ 1000000) (w : World) :
    Calls Try.prog 38 #[.string s] w fun e w' => ∃ A n cap, e = .returned (.tuple #[.slice A n cap, .int .i64 (L.pnE (L.bs s))]) ∧ By w' A n cap (L.pnB (L.bs s)) ∧ Below w.heap.size w w' := by
  unfold L.pnE L.pnB
  by_cases h : L.name (L.bs s) = true
  · rw [if_pos h, if_pos h]
    refine (L.putName_yes s h w).mono ?_
    rintro e w' ⟨g, cap, rfl, h1, h2⟩
    exact ⟨_, _, _, rfl, h1, h2⟩
  · rw [if_neg h, if_neg h]
    have C := Lib.hid (fun w => L.name_any s hs w)
    rw [Bool.not_eq_true] at h
    rw [h] at C
    clear h
    go_enter Try.func38, Try.ntmps38
    go_wp2_with (fail)
    refine (C.out w).mono ?_; rintro e w2 ⟨rfl, rfl⟩
    go_wp2
    go_ret2
    exact ⟨none, 0, 0, rfl, Rw.empty _ _ _, Below.refl _ _⟩
theorem L.whole_more (n q : Nat) (hq : 1 + n + q ≤ L.whole n) : (1 + n + q) % 4 = 0 → 1 + n + q = L.whole n := by
  have := L.whole_le n
  unfold L.whole at *
  omega
theorem L.whole_less (n q : Nat) (hq : 1 + n + q ≤ L.whole n) : ¬ (1 + n + q) % 4 = 0 → 1 + n + (q + 1) ≤ L.whole n := by
  have := L.whole_le n
  unfold L.whole at *
  omega
end Go.Proofs.Ytpfejjkoemnmiaa
/-
  The contracts of the document's Fit, and of TakeName, the program's and the document's.
-/
namespace Go.Proofs.Ytpfejjkoemnmiaa
open Go.RowKit
set_option linter.unusedVariables false
set_option linter.unusedSimpArgs false
set_option maxRecDepth 100000
/-- what Fit has put together behind k bytes -/
structure L.Fits (t : ByteArray) (k : Nat) : Prop where
  len : t.size = 1 + k
  low : ∃ x xs, L.bs t = x :: xs ∧ 97 ≤ x ∧ x ≤ 122
  part : (L.bs t).all L.part = true
theorem L.Fits.name {t : ByteArray} {k : Nat} (h : L.Fits t k) (hk : k ≤ 6) : L.name (L.bs t) = true := by
  obtain ⟨x, xs, e, h1, h2⟩ := h.low
  have hl := L.bs_len t
  have hg : (L.bs t).getD 0 0 = x := by rw [e]; rfl
  have hs := h.len
  rw [L.name_yes (by omega) (by omega) ?_ ?_]
  · exact h.part
  · rw [hg]; unfold L.letter; simp [h1, h2]
  · exact L.reg_no (Or.inr (Or.inr (by rw [hg]; omega)))
theorem L.bs_append (s t : ByteArray) : L.bs (s ++ t) = L.bs s ++ L.bs t := by
  unfold L.bs
  rw [← List.map_append]
  simp
def L.alls : ByteArray := ⟨#[97, 98, 99, 88, 89, 90, 95, 48, 49, 57, 82, 109]⟩
theorem L.alls_at : ∀ k, k < 12 → (L.bs (L.alls.extract k (k + 1))).all L.part = true ∧ (L.alls.extract k (k + 1)).size = 1
  | 0, _ => by decide
  | 1, _ => by decide
  | 2, _ => by decide
  | 3, _ => by decide
  | 4, _ => by decide
  | 5, _ => by decide
  | 6, _ => by decide
  | 7, _ => by decide
  | 8, _ => by decide
  | 9, _ => by decide
  | 10, _ => by decide
  | 11, _ => by decide
theorem L.Fits.more {t u : ByteArray} {k : Nat} (h : L.Fits t k) (h1 : (L.bs u).all L.part = true) (h2 : u.size = 1) : L.Fits (t ++ u) (k + 1) := by
  obtain ⟨x, xs, e, h3, h4⟩ := h.low
  refine ⟨by rw [ByteArray.size_append, h.len, h2]; omega, ⟨x, xs ++ L.bs u, by rw [L.bs_append, e]; rfl, h3, h4⟩, ?_⟩
  rw [L.bs_append, List.all_append, h.part, h1]; rfl
theorem L.Fits.one (x : Int) (h1 : 97 ≤ x) (h2 : x ≤ 122) : L.Fits (strOfNums [x]) 0 := by
  have e := L.bs_str [x] (by simp; omega)
  refine ⟨by rw [strOfNums_size]; rfl, ⟨x, [], e, h1, h2⟩, ?_⟩
  rw [e]
  simp [L.part, L.letter, h1, h2]
set_option maxRecDepth 100000 in
theorem L.fit_any (s : ByteArray) (hs : s.size ≤ maxLen) (w : World) :
    Calls Try.prog 35 #[.string s] w fun e w' => ∃ t, e = .returned (.string t) ∧ L.name (L.bs t) = true ∧ Below w.heap.size w w' := by
  unfold maxLen at hs
  have hs1 : (s.size : Int) ≤ 9223372036854775807 := by omega
  have hat := Lib.hid (fun (k : Nat) (y : Int) (hy : (L.bs s)[k]? = some y) => L.at_of hy)
  have hrg := Lib.hid (L.bs_rng s)
  have hl := L.bs_len s
  have hm : 0 ≤ (s.size : Int) % 26 ∧ (s.size : Int) % 26 < 26 := by omega
  generalize L.bs s = xs at *
  go_enter Try.func35, Try.ntmps35
  have hY := Lib.hid (Rw.one (L := 256) (Has.new #[.int .u8 (97 + (s.size : Int) % 26)] 5 w) (by omega) (by omega))
  have hB := Lib.hid (((Kept.refl w).alloc #[.int .u8 (97 + (s.size : Int) % 26)] 5).below)
  have hF := Lib.hid (L.Fits.one (97 + (s.size : Int) % 26) (by omega) (by omega))
  go_upto_region 3 with (with_reducible refine want_do (o := ⟨some 12, _, _, _, _, _⟩) rfl (exec_text Try.underlying42 Try.underlying5 Try.underlying9 (.tmp 11) rfl rfl hY.out) ?_)
  clear hY
  generalize w.alloc (.cells #[.int .u8 (97 + (s.size : Int) % 26)] 5) = w1 at *
  generalize strOfNums [97 + (s.size : Int) % 26] = t0 at *
  clear hm
  go_wp2
  go_loopw [4, 5] (fun o i wr => ∃ (k : Nat) (t : ByteArray), k ≤ 6 ∧ k ≤ s.size ∧ i = .int .i64 k ∧ o = .string t ∧ L.Fits t k ∧ Below w.heap.size w wr) (fun _ i _ => 6 - (intOf i).toNat)
  case atStart => exact ⟨0, t0, by omega, by omega, rfl, rfl, hF.out, hB.out⟩
  case round =>
    clear hF hB
    obtain ⟨k, t, hk6, hks, rfl, rfl, hF, hB⟩ := hrel
    by_cases d1 : k < s.size
    · have d2 : (k : Int) < (s.size : Int) := by omega
      by_cases d3 : k < 6
      · have d4 : (k : Int) < 6 := by omega
        obtain ⟨y, hy⟩ : ∃ y, xs[k]? = some y := ⟨_, List.getElem?_eq_getElem (by omega)⟩
        obtain ⟨hy1, hy2⟩ := hat.out k y hy
        have hy3 := hrg.out y (List.mem_of_getElem? hy)
        obtain ⟨q, hq⟩ := Int.eq_ofNat_of_zero_le (show 0 ≤ y % 12 by omega)
        have hq2 : q < 12 := by omega
        have hq3 : (q : Int) < 12 := by omega
        obtain ⟨a1, a2⟩ := L.alls_at q hq2
        have R := Lib.hid (hF.more a1 a2)
        have ht := hF.len
        have hsum : (t.size : Int) ≤ 7 := by omega
        clear hF a1 hy
        replace hB := Lib.hid hB
        go_wp2
        go_quiet (fail)
        go_wp2
        go_roundw
        case rel => exact ⟨k + 1, _, by omega, by omega, by go_num, rfl, R.out, Bel.drewN hB.out nq⟩
        case measure => simp [intOf]; omega
      · have d4 : ¬ (k : Int) < 6 := by omega
        have R := Lib.hid (hF.name hk6)
        replace hB := Lib.hid hB
        clear hF
        go_wp2
        go_ret
        exact ⟨t, rfl, R.out, hB.out⟩
    · have d2 : ¬ (k : Int) < (s.size : Int) := by omega
      have R := Lib.hid (hF.name hk6)
      replace hB := Lib.hid hB
      clear hF
      go_wp2
      go_ret
      exact ⟨t, rfl, R.out, hB.out⟩
theorem L.tnE_short {bs : List Int} (h : bs.length = 0 ∨ bs.length < L.whole (L.first bs)) : L.tnE bs = 3 := by
  unfold L.tnE
  rcases h with h | h
  · rw [if_pos h]
  · by_cases c : bs.length = 0
    · rw [if_pos c]
    · rw [if_neg c, if_pos h]
theorem L.tnE_name {bs : List Int} (h : ¬ bs.length = 0) (h1 : ¬ bs.length < L.whole (L.first bs)) (h2 : L.name (L.tnX bs) = false) : L.tnE bs = 9 := by
  unfold L.tnE
  rw [if_neg h, if_neg h1, if_neg (by rw [h2]; decide)]
theorem L.tnE_form {bs : List Int} (h : ¬ bs.length = 0) (h1 : ¬ bs.length < L.whole (L.first bs)) (h2 : L.name (L.tnX bs) = true) (h3 : ((bs.take (L.whole (L.first bs))).drop (1 + L.first bs)).all (fun x => decide (x = 0)) = false) : L.tnE bs = 6 := by
  unfold L.tnE
  rw [if_neg h, if_neg h1, if_pos h2, if_neg (by rw [h3]; decide)]
theorem L.tnE_ok {bs : List Int} (h : ¬ bs.length = 0) (h1 : ¬ bs.length < L.whole (L.first bs)) (h2 : L.name (L.tnX bs) = true) (h3 : ((bs.take (L.whole (L.first bs))).drop (1 + L.first bs)).all (fun x => decide (x = 0)) = true) : L.tnE bs = 0 := by
  unfold L.tnE
  rw [if_neg h, if_neg h1, if_pos h2, if_pos h3]
theorem L.tn_not {bs : List Int} (h : ¬ L.tnE bs = 0) : L.tnS bs = [] ∧ L.tnN bs = 0 := by
  unfold L.tnS L.tnN
  rw [if_neg h, if_neg h]; exact ⟨rfl, rfl⟩
theorem L.tn_ok {bs : List Int} (h : L.tnE bs = 0) : L.tnS bs = L.tnX bs ∧ L.tnN bs = (L.whole (L.first bs) : Int) := by
  unfold L.tnS L.tnN
  rw [if_pos h, if_pos h]; exact ⟨rfl, rfl⟩
theorem L.tnX_byt {bs : List Int} (h : L.Byt bs) : L.Byt (L.tnX bs) := fun x hx => h x (List.mem_of_mem_take (List.mem_of_mem_drop hx))
/-- what TakeName hands back -/
def L.tnV (bs : List Int) : Value := .tuple #[.string (strOfNums (L.tnS bs)), .int .i64 (L.tnN bs), .int .i64 (L.tnE bs)]
theorem L.tnV_not {bs : List Int} {e : Int} (h : L.tnE bs = e) (he : e ≠ 0) : L.tnV bs = .tuple #[.string ⟨#[]⟩, .int .i64 0, .int .i64 e] := by
  unfold L.tnV
  rw [(L.tn_not (by rw [h]; exact he)).1, (L.tn_not (by rw [h]; exact he)).2, h]; rfl
theorem L.tnV_ok {bs : List Int} (h : L.tnE bs = 0) : L.tnV bs = .tuple #[.string (strOfNums (L.tnX bs)), .int .i64 (L.whole (L.first bs) : Int), .int .i64 0] := by
  unfold L.tnV
  rw [(L.tn_ok h).1, (L.tn_ok h).2, h]
set_option maxHeartbeats 2000000 in
set_option maxRecDepth 100000 in
theorem L.takeName_any {w : World} {A : Option Addr} {n c : Nat} {bs : List Int} (h : By w A n c bs) (hn : n ≤ 1000000) :
    Calls Try.prog 82 #[.slice A n c] w fun e w' => e = .returned (L.tnV bs) ∧ Below w.heap.size w w' := by
  have hl := h.len
  have hle := h.le
  have hn1 : (n : Int) ≤ 1000000 := by omega
  by_cases c0 : n = 0
  · subst c0
    rw [L.tnV_not (L.tnE_short (Or.inl hl)) (by decide)]
    clear h
    go_enter Try.func82, Try.ntmps82
    go_wp2
    go_ret3
    exact ⟨rfl, Below.refl _ _⟩
  obtain ⟨b, off, rfl⟩ := h.place (by omega)
  have c1 : ¬ (n : Int) = 0 := by omega
  have c2 : ((n : Int) == 0) = false := by simpa using c1
  obtain ⟨x, hx⟩ : ∃ x, bs[0]? = some x := ⟨_, List.getElem?_eq_getElem (by omega)⟩
  have hxr := h.rng x (List.mem_of_getElem? hx)
  have hg0 := h.cellAt 0 x hx
  rw [Nat.add_zero] at hg0
  have hf : (L.first bs : Int) = x := by
    unfold L.first
    rw [List.getD_eq_getElem?_getD, hx]
    show (x.toNat : Int) = x
    omega
  have hk0 : (0 : Int) < (n : Int) := by omega
  have hE1 := Lib.hid (fun h1 => L.tnV_not (L.tnE_short (bs := bs) (Or.inr h1)) (by decide))
  have hE2 := Lib.hid (fun h1 h2 => L.tnV_not (L.tnE_name (bs := bs) (by omega) h1 h2) (by decide))
  have hE3 := Lib.hid (fun h1 h2 h3 => L.tnV_not (L.tnE_form (bs := bs) (by omega) h1 h2 h3) (by decide))
  have hE4 := Lib.hid (fun h1 h2 h3 => L.tnV_ok (L.tnE_ok (bs := bs) (by omega) h1 h2 h3))
  have hXd : L.tnX bs = (bs.take (1 + L.first bs)).drop 1 := rfl
  have hXb := Lib.hid (L.tnX_byt h.rng)
  generalize L.first bs = f at *
  subst hf
  have CW := Lib.hid (fun w => L.whole_any f (by omega) w)
  have hw := L.whole_le f
  generalize L.whole f = N at *
  have hf1 : (f : Int) < 256 := hxr.2
  by_cases c3 : n < N
  · rw [hE1.out (by omega)]
    have c4 : (n : Int) < N := by omega
    clear hE1 hE2 hE3 hE4 h hXd hXb
    go_enter Try.func82, Try.ntmps82
    go_wp2_with (fail)
    refine (CW.out _).mono ?_; rintro e w2 ⟨rfl, rfl⟩
    go_wp2
    go_ret3
    exact ⟨rfl, Below.refl _ _⟩
  have c4 : ¬ (n : Int) < N := by omega
  have hX := h.sub 1 (1 + f) (by omega) (by omega)
  rw [← hXd, show 1 + f - 1 = f by omega] at hX
  generalize hY : L.tnX bs = ys at *
  have hyl : ys.length = f := hX.len
  have CN := Lib.hid (fun w => L.name_any (strOfNums ys) (by rw [strOfNums_size]; omega) w)
  rw [L.bs_str ys hXb.out] at CN
  have H := Lib.hid h
  replace hX := Lib.hid hX
  replace hg0 := Lib.hid hg0
  clear h hXd hXb hx
  generalize hZ : (bs.take N).drop (1 + f) = zs at *
  have hzl : zs.length = N - (1 + f) := by rw [← hZ]; simp; omega
  have hzc := Lib.hid (fun (k : Nat) (z : Int) (hz : zs[k]? = some z) => (show w.cell? ⟨b, off + (1 + f + k), none⟩ = some (.int .u8 z) from H.out.cellAt (1 + f + k) z (by
    rw [← hZ, List.getElem?_drop, List.getElem?_take] at hz
    split at hz
    · exact hz
    · cases hz)))
  have hb := H.out.lt (by omega)
  have hl1 : ¬ bs.length < N := by omega
  replace hE2 := Lib.hid (hE2.out hl1)
  replace hE3 := Lib.hid (hE3.out hl1)
  replace hE4 := Lib.hid (hE4.out hl1)
  clear hE1 hY hZ H hl1 hl
  have hc1 : (1 : Int) + f ≤ N := by omega
  have hc2 : (N : Int) ≤ n := by omega
  have hgd : Hid (w.drew.cell? ⟨b, off, none⟩ = some (.int .u8 f)) := Lib.hid hg0.out
  replace hg0 := hg0.out
  go_enter Try.func82, Try.ntmps82
  go_wp2_with (fail)
  refine (CW.out _).mono ?_; rintro e w2 ⟨rfl, rfl⟩
  go_wp2_with (fail)
  clear hg0
  refine WS.start 10 (by kernel_rfl) (by kernel_rfl) ?_
  intro w2 hw2
  have hB2 := Lib.hid (show Below w.heap.size w w2 by rw [hw2]; exact (Below.refl _ _).drew)
  have hg0 := hgd.out
  rw [← hw2] at hg0
  replace hX := Lib.hid (hX.out.below hB2.out)
  clear hw2 hgd
  simp only [List.take_succ_cons, List.take_zero, List.drop_succ_cons, List.drop_zero]
  iterate 2 (refine WS.step rfl (fun K hK => ?_); go_simp; refine hK _ ?_; clear hK K)
  have k1 : 0 ≤ 1 + (f : Int) ∧ 1 + (f : Int) ≤ (c : Int) := by omega
  have k3 : 1 ≤ max (1 + (f : Int)) 0 := by omega
  have k4 : ¬ c = 1 := by omega
  have k5 : (1 + (f : Int)).toNat - 1 = f := by omega
  refine WS.step rfl (fun K hK => ?_); go_simp; refine hK _ ?_; clear hK K k1 k3 k4 k5
  refine WS.step rfl (fun K hK => ?_); refine still_value (exec_text Try.underlying42 Try.underlying5 Try.underlying9 (.tmp 27) rfl rfl hX.out) ?_; refine hK _ ?_; clear hK K
  simp only [Act.put, List.setIfInBounds_toArray, List.set_cons_zero, List.set_cons_succ]
  have k6 : 0 < n := by omega
  iterate 4 (refine WS.step rfl (fun K hK => ?_); go_simp; refine hK _ ?_; clear hK K)
  rw [show IntKind.i64.wrap (f : Int) = f by rw [IntKind.wrap_i64]; omega]
  refine WS.step rfl (fun K hK => ?_); go_simp; refine ⟨_, (CW.out _).mono (fun _ _ h => ⟨h.1, h.2.symm⟩), hK _ ?_⟩; clear hK K
  iterate 1 (refine WS.step rfl (fun K hK => ?_); go_simp; refine hK _ ?_; clear hK K)
  refine WS.nil ?_
  clear hg0 hX CW
  go_wp2_with (fail)
  refine (CN.out _).mono ?_; rintro e w' ⟨rfl, rfl⟩
  clear CN
  cases p : L.name ys with
  | false =>
    replace hE2 := Lib.hid (hE2.out p)
    go_wp2
    go_ret3
    exact ⟨congrArg Ending.returned hE2.out.symm, hB2.out⟩
  | true =>
    replace hE3 := Lib.hid (hE3.out p)
    replace hE4 := Lib.hid (hE4.out p)
    generalize hM : N - (1 + f) = M at *
    have hM1 : (N : Int) - (1 + (f : Int)) = M := by omega
    go_wp2
    go_loopw [2, 3, 6, 40] (fun v2 v3 _ i wr => ∃ k : Nat, k ≤ M ∧ i = .int .i64 k ∧ v2 = .string (strOfNums ys) ∧ v3 = .int .i64 N ∧ (zs.take k).all (fun x => decide (x = 0)) = true ∧ w2 = wr) (fun _ _ _ i _ => M - (intOf i).toNat)
    case atStart => exact ⟨0, Nat.zero_le _, rfl, rfl, rfl, rfl, rfl⟩
    case round =>
      obtain ⟨k, hk, rfl, rfl, rfl, ht, rfl⟩ := hrel
      by_cases d1 : k < M
      · have d2 : (k : Int) < M := by omega
        obtain ⟨z, hz⟩ : ∃ z, zs[k]? = some z := ⟨_, List.getElem?_eq_getElem (by omega)⟩
        have g1 := (hB2.out.cell (p := ⟨b, off + (1 + f + k), none⟩) hb).trans (hzc.out k z hz)
        have hp2 : 1 + (f : Int) + k < n := by omega
        have hp3 : 0 ≤ 1 + (f : Int) + k := by omega
        have hp4 : (1 + (f : Int) + k).toNat = 1 + f + k := by omega
        by_cases e1 : z = 0
        · have R := Lib.hid (all_step ht hz (show decide (z = 0) = true from decide_eq_true e1))
          subst e1
          clear ht hz hzc
          go_wp2
          go_roundw
          case rel => exact ⟨k + 1, by omega, by go_num, rfl, rfl, R.out, by trivial⟩
          case measure => simp [intOf]; omega
        · have R := Lib.hid (all_not (p := fun x => decide (x = 0)) hz (decide_eq_false e1))
          have e2 : (z != 0) = true := by simpa using e1
          have e3 : (z == 0) = false := by simpa using e1
          replace hE3 := Lib.hid (hE3.out R.out)
          clear ht hz hzc
          go_wp2
          go_ret3
          exact ⟨congrArg Ending.returned hE3.out.symm, hB2.out⟩
      · have d2 : ¬ (k : Int) < M := by omega
        rw [List.take_of_length_le (by omega)] at ht
        replace hE4 := Lib.hid (hE4.out ht)
        clear ht
        go_wp2
        go_ret3
        exact ⟨congrArg Ending.returned hE4.out.symm, hB2.out⟩
end Go.Proofs.Ytpfejjkoemnmiaa
