/-
  The contract of the document's Fit of an object.
-/
import Derived.Test.YtpfgmfiegnkocaaM08
namespace Go.Proofs.Ytpfgmfiegnkocaa
open Go.RowKit
set_option linter.unusedVariables false
set_option linter.unusedSimpArgs false
set_option maxRecDepth 100000
/-- a slice of strings -/
structure St (w : World) (A : Option Addr) (n c : Nat) (ss : List ByteArray) : Prop where
  len : ss.length = n
  le : n ≤ c
  max : c ≤ maxLen
  nil : A = none → c = 0
  siz : ∀ s ∈ ss, s.size ≤ 140737488351232
  cel : ∀ ad, A = some ad → ∀ j s, ss[j]? = some s → w.cell? (ad.add j) = some (.string s)
section
variable {w w' : World} {A : Option Addr} {n c : Nat} {ss : List ByteArray}
theorem St.lt {ad : Addr} (h : St w (some ad) n c ss) (hn : 0 < n) : ad.block < w.heap.size := by
  have hl : 0 < ss.length := by have := h.len; omega
  have := World.block_lt_of_cell? w _ (h.cel ad rfl 0 _ (List.getElem?_eq_getElem hl))
  unfold Addr.add at this
  split at this <;> exact this
theorem St.below (h : St w A n c ss) (hb : Below w.heap.size w w') : St w' A n c ss :=
  ⟨h.len, h.le, h.max, h.nil, h.siz, fun ad e j s hs => by
    have hj : j < ss.length := by
      rcases Nat.lt_or_ge j ss.length with h1 | h1
      · exact h1
      · rw [List.getElem?_eq_none h1] at hs; cases hs
    rw [World.cell?_of_block (w := w) (by rw [show (ad.add j).block = ad.block by cases j <;> rfl]; exact hb.block _ (by subst e; exact h.lt (by have := h.len; omega)))]
    exact h.cel ad e j s hs⟩
theorem St.addr {ad : Addr} (h : St w (some ad) n c ss) (hn : 0 < n) : ∃ b off, ad = ⟨b, off, none⟩ := by
  have hl : 0 < ss.length := by have := h.len; omega
  have hx := h.cel ad rfl 0 _ (List.getElem?_eq_getElem hl)
  obtain ⟨b, off, spot⟩ := ad
  have hspot : spot = none := by simpa [Addr.add] using World.cell?_spot hx
  subst hspot
  exact ⟨b, off, rfl⟩
theorem St.place (h : St w A n c ss) (hn : 0 < n) : ∃ b off, A = some ⟨b, off, none⟩ := by
  cases A with
  | none => have := h.nil rfl; have := h.le; omega
  | some ad => obtain ⟨b, off, rfl⟩ := h.addr hn; exact ⟨b, off, rfl⟩
theorem St.at {b off : Nat} (h : St w (some ⟨b, off, none⟩) n c ss) (k : Nat) (hk : k < n) : w.cell? ⟨b, off + k, none⟩ = some (.string (ss.getD k Ob.e0)) := by
  have hl : k < ss.length := by have := h.len; omega
  have := h.cel _ rfl k _ (List.getElem?_eq_getElem hl)
  rw [List.getD_eq_getElem?_getD, List.getElem?_eq_getElem hl]
  rwa [show (⟨b, off, none⟩ : Addr).add k = ⟨b, off + k, none⟩ by cases k <;> simp [Addr.add]] at this
theorem St.size (h : St w A n c ss) (k : Nat) : (ss.getD k Ob.e0).size ≤ 140737488351232 := by
  rw [List.getD_eq_getElem?_getD]
  cases q : ss[k]? with
  | none => exact Nat.zero_le _
  | some s => exact h.siz s (List.mem_of_getElem? q)
end
theorem hGN4 {w w4 : World} (h : Below w.heap.size w w4) : w.heap.size ≤ w4.heap.size := h.size
theorem fit_rises' (bs : List Int) (n m : Nat) (hn : n ≤ 65535) : Ch.Rises n (Ch.fit bs (min n m)) := (Ch.fit_rises bs n hn (min n m) (by omega)).1
theorem Sy.slice {w : World} {A : Option Addr} {n c : Nat} {ys : List Ob.Y} (h : Sy w A n c ys) (i : Nat) (hi : i ≤ n) : Sy w (if c = i then A else A.map (fun x => x.add (i * 2))) (n - i) (c - i) (ys.drop i) := by
  have hl := h.len
  have hle := h.le
  refine ⟨by simp [hl], by omega, by have := h.max; omega, ?_, ?_⟩
  · split
    · intro e; have := h.nil e; omega
    · cases A with
      | none => intro _; have := h.nil rfl; omega
      | some ad => intro e; cases e
  · intro ad e j v hv
    rw [Ob.cells_drop, List.getElem?_drop] at hv
    split at e
    · rename_i hc
      rw [List.getElem?_eq_none (by rw [Ob.cells_len]; omega)] at hv
      cases hv
    · cases A with
      | none => cases e
      | some a0 =>
        simp only [Option.map_some, Option.some.injEq] at e
        subst e
        rw [add_add]
        exact h.cel a0 rfl _ v hv
section
variable {P : Program} {ops : Array Oper} {rest : List Oper} {o : Oper} {a : Act} {Q : Exit → Act → World → Prop} {K : Act → World → Prop} {w : World}
/-- append as a drawn region asks it -/
theorem append_syK {e t : TypeId} {z : Value} {by0 : Nat} (hu : P.underlying t = some (.slice e)) (hinf : (P.info? e).map (fun i => (i.zero, i.size, i.bytes)) = some (some z, 2, by0)) (hz2 : z.cells.size = 2) (hby : by0 ≤ 100)
    (s x : Operand)
    (ho : o.op = .call { callee := .builtin .append, args := #[s, x], argTypes := #[t, t] }) (base g n cap : Nat) (xs : List Ob.Y) (hs : a.eval s = .slice (some ⟨g, 0, none⟩) n cap) (hown : Os e base (some ⟨g, 0, none⟩) n cap xs w)
    (B : Option Addr) (m c : Nat) (ys : List Ob.Y) (hx : a.eval x = .slice B m c) (hY : Sy w B m c ys) (hb : n + m ≤ 1000000000000) (hbase : base ≤ w.heap.size)
    (h : ∀ g' cap' w', Os e base (some ⟨g', 0, none⟩) (n + m) cap' (xs ++ ys) w' → w.grownBy w' (some g) → K (a.put o.dst (.slice (some ⟨g', 0, none⟩) (n + m) cap')) w') : o.wp P a w K Q := by
  obtain ⟨i0, hi, hz0, hz1, hz2'⟩ := info_parts hinf
  cases B with
  | none =>
    have hc := hY.nil rfl
    have hm : m = 0 := by have := hY.le; omega
    subst hc hm
    have hy : ys = [] := List.eq_nil_of_length_eq_zero hY.len
    subst hy
    have hrun := run_append_owned_none (P := P) (w := w) base t o.type e i0 2 hu hi _ n _ hown
    unfold Oper.wp
    simp [execOp, ho, resolve, invoke, builtin, hs, hx, hrun, Result.andThen]
    exact h g cap w (by rw [Nat.add_zero, List.append_nil]; exact hown) ⟨rfl, rfl, rfl, Nat.le_refl _, fun _ _ _ => rfl⟩
  | some ad =>
    refine wp_append_own w s x t ho base e i0 z 2 by0 hu hi hz0 hz1 hz2' hz2 (by decide) _ n (Ob.cells xs) hs hown ad m c (Ob.cells ys) hx (by rw [Ob.cells_len, hY.len]) (fun j u hj => hY.cel ad rfl j u hj) (fun u hu => Ob.cells_one hu) (by unfold maxLen; omega) ?_ hbase ?_
    · have := Nat.mul_le_mul hb hby
      omega
    · intro v' w' h1 h2 h3
      have hv : ∃ g' cap', v' = .slice (some ⟨g', 0, none⟩) (n + m) cap' := by
        rcases h1.2 with ⟨h4, h5⟩ | ⟨g', cap', cur, h4, _⟩
        · have := (h3.1 h4).1
          cases this
        · exact ⟨g', cap', h4⟩
      obtain ⟨g', cap', rfl⟩ := hv
      rw [← Ob.cells_append] at h1
      exact h g' cap' w' h1 h2
end
def Ob.fS (n : Nat) (bs : List Int) : List Int := Ch.fit bs (min n bs.length)
def Ob.fW (ws bs : List Int) : List Int := Ob.fw (ws.take (min ws.length 40)) (Ob.fS (min ws.length 40) bs) (Ob.fS (min ws.length 40) bs).length
def Ob.fY (n : Nat) (ns : List ByteArray) : List Ob.Y := Ob.fy L.fitS n ns (min ns.length 8)
theorem Ow.apart {e e' : TypeId} {k k' : IntKind} {base base' g g' n n' c c' : Nat} {xs xs' : List Int} {w : World} (h : Ow e k base g n c xs w) (h' : Ow e' k' base' g' n' c' xs' w) (he : e ≠ e') (j : Nat) (v : Value) : Ow e k base g n c xs (w.setCell ⟨g', j, none⟩ v) := by
  obtain ⟨_, _, _, _, cur, hh, _⟩ := h'.has
  have := h.on.other hh (fun q => he q.symm) j v
  exact this
theorem Os.apart {e e' : TypeId} {k' : IntKind} {base base' g' n n' c c' : Nat} {A : Option Addr} {ys : List Ob.Y} {xs' : List Int} {w : World} (h : Os e base A n c ys w) (h' : Ow e' k' base' g' n' c' xs' w) (he : e' ≠ e) (j : Nat) (v : Value) : Os e base A n c ys (w.setCell ⟨g', j, Option.none⟩ v) := by
  obtain ⟨_, _, _, _, cur, hh, _⟩ := h'.has
  exact h.other hh he j v
/-- how Fit stands: the block G is the object, of the words W, the sites S and the names Y; N the result -/
structure FitSt (base N G gW n1 cW gS cS : Nat) (W S : List Int) (A : Option Addr) (c : Nat) (Y : List Ob.Y) (w0 w : World) : Prop where
  hG : Has G #[.slice (some ⟨gW, 0, none⟩) n1 cW, .slice (some ⟨gS, 0, none⟩) S.length cS, .slice A Y.length c] 26 w
  hP : Ow 39 .u32 base gW n1 cW W w
  hQ : Ow 3 .i64 base gS S.length cS S w
  hY : Os 69 base A Y.length c Y w
  hZ : Has N #[.slice none 0 0, .slice none 0 0, .slice none 0 0] 26 w
  hB : Below base w0 w
  hN : N ≠ G
  hNb : base ≤ N
  hGb : base ≤ G
section
variable {base N G gW n1 cW gS cS : Nat} {W S : List Int} {A : Option Addr} {c : Nat} {Y : List Ob.Y} {w0 w w' : World}
theorem FitSt.below (h : FitSt base N G gW n1 cW gS cS W S A c Y w0 w) (hb : Below w.heap.size w w') : FitSt base N G gW n1 cW gS cS W S A c Y w0 w' :=
  ⟨h.hG.below hb, h.hP.below hb, h.hQ.below hb, h.hY.below hb, h.hZ.below hb, h.hB.trans (hb.mono (by have := h.hG.lt; have := h.hGb; omega)), h.hN, h.hNb, h.hGb⟩
theorem FitSt.drew (h : FitSt base N G gW n1 cW gS cS W S A c Y w0 w) : FitSt base N G gW n1 cW gS cS W S A c Y w0 w.drew :=
  ⟨h.hG.drew, h.hP.drew, h.hQ.drew, h.hY.drew, h.hZ.drew, h.hB.drew, h.hN, h.hNb, h.hGb⟩
theorem FitSt.word (h : FitSt base N G gW n1 cW gS cS W S A c Y w0 w) (j : Nat) (x : Int) : FitSt base N G gW n1 cW gS cS (W.set j x) S A c Y w0 (w.setCell ⟨gW, j, none⟩ (.int .u32 x)) :=
  have h1 := h.hP.on.ne h.hG (by decide) gW rfl
  have h2 := h.hP.on.ne h.hZ (by decide) gW rfl
  ⟨h.hG.other (fun e => h1 e.symm) _, h.hP.set j x, h.hQ.apart h.hP (by decide) j _, h.hY.apart h.hP (by decide) j _, h.hZ.other (fun e => h2 e.symm) _, h.hB.setCell h.hP.has.1 _, h.hN, h.hNb, h.hGb⟩
theorem FitSt.syms (h : FitSt base N G gW n1 cW gS cS W S A c Y w0 w) {A' : Option Addr} {c' : Nat} {Y' : List Ob.Y} (hO : Os 69 base A' Y'.length c' Y' w) : FitSt base N G gW n1 cW gS cS W S A' c' Y' w0 (w.setCell ⟨G, 2, none⟩ (.slice A' Y'.length c')) :=
  ⟨h.hG.set 2 _, h.hP.on.other h.hG (by decide) 2 _, h.hQ.on.other h.hG (by decide) 2 _, hO.other h.hG (by decide) 2 _, h.hZ.other h.hN _, h.hB.setCell h.hGb _, h.hN, h.hNb, h.hGb⟩
end
set_option maxRecDepth 100000 in
set_option maxHeartbeats 4000000 in
theorem Ob.fit_any {w : World} {A B C : Option Addr} {n c m d k e : Nat} {ws bs : List Int} {ns : List ByteArray} (hW : Wo w A n c ws) (hS : By w B m d bs) (hN : St w C k e ns) :
    Calls Try.prog 21 #[.slice A n c, .slice B m d, .slice C k e] w fun r w' => ∃ gW cW gS cS C' e', r = .returned (.agg #[.slice (some ⟨gW, 0, none⟩) (min n 40) cW, .slice (some ⟨gS, 0, none⟩) (Ob.fS (min n 40) bs).length cS, .slice C' (Ob.fY (min n 40) ns).length e']) ∧
      Ow 39 .u32 w.heap.size gW (min n 40) cW (Ob.fW ws bs) w' ∧ Ow 3 .i64 w.heap.size gS (Ob.fS (min n 40) bs).length cS (Ob.fS (min n 40) bs) w' ∧ Os 69 w.heap.size C' (Ob.fY (min n 40) ns).length e' (Ob.fY (min n 40) ns) w' ∧ Below w.heap.size w w' := by
  have hlw := hW.len
  have hlb := hS.len
  have hln := hN.len
  have hle := hW.le
  have hmx := hW.max
  have hle2 := hN.le
  have hmx2 := hN.max
  unfold maxLen at hmx hmx2
  obtain ⟨W, hWW⟩ : ∃ W, W = Ob.fW ws bs := ⟨_, rfl⟩
  obtain ⟨S, hSS⟩ : ∃ S, S = Ob.fS (min n 40) bs := ⟨_, rfl⟩
  obtain ⟨Y, hYY⟩ : ∃ Y, Y = Ob.fY (min n 40) ns := ⟨_, rfl⟩
  have hW0 := hWW
  unfold Ob.fW at hW0
  rw [hlw, ← hSS] at hW0
  rw [← hWW, ← hSS, ← hYY]
  obtain ⟨n1, hn1⟩ : ∃ n1, n1 = min n 40 := ⟨_, rfl⟩
  rw [← hn1] at hSS hYY hW0 ⊢
  have i1 : (if (40 : Int) < (n : Int) then (40 : Int) else n) = n1 := by split <;> omega
  have n1c : n1 ≤ c := by omega
  have n1m : n1 ≤ 40 := by omega
  have n1n : n1 ≤ n := by omega
  have hX := hW.take n1 n1n
  have hV0 : (ws.take n1).length = n1 := by rw [List.length_take]; omega
  have hVr := Lib.hid hX.rng
  generalize ws.take n1 = V at *
  replace hn1 := Lib.hid hn1
  replace hSS := Lib.hid hSS
  replace hYY := Lib.hid hYY
  replace hW0 := Lib.hid hW0
  clear hWW
  have hA1 := (((Kept.refl w).alloc #[.slice none 0 0, .slice none 0 0, .slice none 0 0] 26).alloc #[] 39).below
  have hZ := Lib.hid ((Has.new #[.slice none 0 0, .slice none 0 0, .slice none 0 0] 26 w).alloc (.cells #[] 39))
  have hO1 := Ow.new 39 .u32 (w.alloc (.cells #[.slice none 0 0, .slice none 0 0, .slice none 0 0] 26)) w.heap.size (by simp)
  rw [show (w.alloc (.cells #[.slice none 0 0, .slice none 0 0, .slice none 0 0] 26)).heap.size = w.heap.size + 1 by simp] at hO1
  replace hO1 := Lib.hid hO1
  replace hX := Lib.hid (hX.rg.below hA1)
  replace hS := Lib.hid hS
  replace hN := Lib.hid hN
  have hs0 := hA1.size
  have hB := Lib.hid hA1
  clear hA1 hW
  go_enter Try.func21, Try.ntmps21
  go_wp2_with (first
    | (with_reducible refine append_rg (o := ⟨some 20, _, _, _, _, _⟩) Try.underlying22 Ch.info32 (by omega) rfl (.tmp 14) (.tmp 19) rfl w.heap.size (w.heap.size + 1) 0 0 [] rfl hO1.out A n1 c V rfl hX.out (by omega) hs0 ?_
       intro gW cW w3 hO3 hG3
       rw [List.nil_append, Nat.zero_add] at hO3
       rw [Nat.zero_add]
       have q1 := hZ.out.grown hG3 (hO1.out.on.ne hZ.out (by decide))
       have q2 := hB.out.grown hG3 hs0 hO1.out.on.from
       have hA3 := ((Kept.refl w3).alloc #[.slice (some ⟨gW, 0, none⟩) n1 cW, .slice none 0 0, .slice none 0 0] 26).below
       have hG := Lib.hid (Has.new #[.slice (some ⟨gW, 0, none⟩) n1 cW, .slice none 0 0, .slice none 0 0] 26 w3)
       have hP := Lib.hid (hO3.below hA3)
       replace hZ := Lib.hid (q1.below hA3)
       have hGN := q2.size
       replace hB := Lib.hid (q2.trans (hA3.mono q2.size))
       have hZ0 : w.heap.size < w3.heap.size := q1.lt
       have hB0 := Lib.hid (show Below w.heap.size w _ from hB.out)
       clear q1 q2 hA3 hO3 hG3 hO1 hX hs0))
  generalize w3.alloc (.cells #[.slice (some ⟨gW, 0, none⟩) n1 cW, .slice none 0 0, .slice none 0 0] 26) = w4 at *
  have hNG := Nat.ne_of_lt hZ0
  generalize w3.heap.size = G at *
  refine (Ch.fit_any (hS.out.below hB0.out) n1 (by omega)).mono ?_; rintro r w5 ⟨gS, cS, rfl, hQ, hE⟩
  have e3 : Ch.fit bs (min n1 m) = S := by rw [hSS.out]; unfold Ob.fS; rw [hlb]
  rw [e3] at hQ ⊢
  have hRs : Ch.Rises n1 S := by rw [← e3]; exact (fit_rises' bs n1 m (by omega))
  replace hRs := Lib.hid hRs
  clear e3
  have hG5 := hG.out.below hE
  have f1 := hG5.cell 1 (.slice none 0 0) rfl
  have f2 := hG5.free 1
  have hF := Lib.hid (show FitSt w.heap.size w.heap.size G gW n1 cW gS cS V S none 0 [] w (w5.setCell ⟨G, 1, none⟩ (.slice (some ⟨gS, 0, none⟩) S.length cS)) from
    ⟨hG5.set 1 _, (hP.out.below hE).on.other hG5 (by decide) 1 _, (hQ.lower (hGN4 hB.out)).on.other hG5 (by decide) 1 _, Os.none _ _ _, (hZ.out.below hE).other hNG _, (hB.out.trans (hE.mono hB.out.size)).setCell hGN _, hNG, Nat.le_refl _, hGN⟩)
  clear hG5 hQ hG hP hZ hB hE
  have hV := Lib.hid hV0
  go_wp2
  generalize w5.setCell ⟨G, 1, none⟩ (.slice (some ⟨gS, 0, none⟩) S.length cS) = w6 at *
  clear f1 f2
  go_loopw [9] (fun i wr => ∃ j : Nat, j ≤ S.length ∧ i = .int .i64 j ∧ FitSt w.heap.size w.heap.size G gW n1 cW gS cS (Ob.fw V S j) S none 0 [] w wr) (fun i _ => S.length - (intOf i).toNat)
  case atStart => exact ⟨0, Nat.zero_le _, rfl, hF.out⟩
  case round =>
    clear hF
    obtain ⟨j, hj, rfl, hF⟩ := hrel
    have hSl : S.length ≤ 9223372036854775807 := by have := hF.hQ.has; unfold maxLen at this; omega
    have o1 := hF.hG.cell 1 (.slice (some ⟨gS, 0, none⟩) S.length cS) rfl
    by_cases d1 : j < S.length
    · have d2 : (j : Int) < S.length := by omega
      obtain ⟨s, hs1, hs2, hs3⟩ := Ch.site_nat hRs.out j d1
      have d3 : (s : Int) < n1 := by omega
      have hfw : Ob.fw V S (j + 1) = (Ob.fw V S j).set s ((Ob.fw V S j).getD s 0 % (4 * (n1 : Int) + 1)) := by
        show (Ob.fw V S j).set (S.getD j 0).toNat ((Ob.fw V S j).getD (S.getD j 0).toNat 0 % (4 * (V.length : Int) + 1)) = _
        rw [hs1, Int.toNat_natCast, hV.out]
      have hx := Ob.fw_rng S hVr.out (by rw [hV.out]; omega) j
      have hx2 : 0 ≤ (Ob.fw V S j).getD s 0 ∧ (Ob.fw V S j).getD s 0 < 4294967296 := by
        rw [List.getD_eq_getElem?_getD]
        cases q : (Ob.fw V S j)[s]? with
        | none => simp
        | some y => exact hx y (List.mem_of_getElem? q)
      have g2 := hF.hP.at s hs2
      have g1 := hF.hQ.at j d1
      rw [hs1] at g1
      clear hx g1 g2
      replace hfw := Lib.hid hfw
      generalize hX : (Ob.fw V S j).getD s 0 = x at *
      replace hX := Lib.hid hX
      go_wp2_with (fail)
      clear o1
      refine WS.start 22 (by kernel_rfl) (by kernel_rfl) ?_
      intro w5 hw5
      have hFd := hF.drew
      rw [← hw5] at hFd
      have o0 := hFd.hG.cell 0 (.slice (some ⟨gW, 0, none⟩) n1 cW) rfl
      have o1 := hFd.hG.cell 1 (.slice (some ⟨gS, 0, none⟩) S.length cS) rfl
      have g1 := hFd.hQ.at j d1
      rw [hs1] at g1
      have g2 := hFd.hP.at s hs2
      rw [hX.out] at g2
      have f2 := hFd.hP.free s
      clear hF
      replace hFd := Lib.hid hFd
      have q1 : IntKind.i64.wrap (4 * (n1 : Int)) = 4 * n1 := by rw [IntKind.wrap_i64]; omega
      have q2 : IntKind.i64.wrap (4 * (n1 : Int) + 1) = 4 * n1 + 1 := by rw [IntKind.wrap_i64]; omega
      have q3 : IntKind.u32.wrap (4 * (n1 : Int) + 1) = 4 * n1 + 1 := by rw [IntKind.wrap_u32]; omega
      have q4 : (4 * (n1 : Int) + 1 = 0) = False := eq_false (by omega)
      have q5 : x.tmod (4 * (n1 : Int) + 1) = x % (4 * n1 + 1) := Int.tmod_eq_emod_of_nonneg hx2.1
      clear hw5
      simp only [List.take_succ_cons, List.take_zero, List.drop_succ_cons, List.drop_zero]
      refine WS.step rfl (fun K hK => ?_); go_simp; (try (simp only [q1, q2, q3, q4, q5, if_false]; (try go_simp))); refine hK _ ?_; clear hK K
      refine WS.step rfl (fun K hK => ?_); go_simp; (try (simp only [q1, q2, q3, q4, q5, if_false]; (try go_simp))); refine hK _ ?_; clear hK K
      refine WS.step rfl (fun K hK => ?_); go_simp; (try (simp only [q1, q2, q3, q4, q5, if_false]; (try go_simp))); refine hK _ ?_; clear hK K
      refine WS.step rfl (fun K hK => ?_); go_simp; (try (simp only [q1, q2, q3, q4, q5, if_false]; (try go_simp))); refine hK _ ?_; clear hK K
      refine WS.step rfl (fun K hK => ?_); go_simp; (try (simp only [q1, q2, q3, q4, q5, if_false]; (try go_simp))); refine hK _ ?_; clear hK K
      refine WS.step rfl (fun K hK => ?_); go_simp; (try (simp only [q1, q2, q3, q4, q5, if_false]; (try go_simp))); refine hK _ ?_; clear hK K
      refine WS.step rfl (fun K hK => ?_); go_simp; (try (simp only [q1, q2, q3, q4, q5, if_false]; (try go_simp))); refine hK _ ?_; clear hK K
      refine WS.step rfl (fun K hK => ?_); go_simp; (try (simp only [q1, q2, q3, q4, q5, if_false]; (try go_simp))); refine hK _ ?_; clear hK K
      refine WS.step rfl (fun K hK => ?_); go_simp; (try (simp only [q1, q2, q3, q4, q5, if_false]; (try go_simp))); refine hK _ ?_; clear hK K
      refine WS.step rfl (fun K hK => ?_); go_simp; (try (simp only [q1, q2, q3, q4, q5, if_false]; (try go_simp))); refine hK _ ?_; clear hK K
      refine WS.step rfl (fun K hK => ?_); go_simp; (try (simp only [q1, q2, q3, q4, q5, if_false]; (try go_simp))); refine hK _ ?_; clear hK K
      refine WS.step rfl (fun K hK => ?_); go_simp; (try (simp only [q1, q2, q3, q4, q5, if_false]; (try go_simp))); refine hK _ ?_; clear hK K
      refine WS.step rfl (fun K hK => ?_); go_simp; (try (simp only [q1, q2, q3, q4, q5, if_false]; (try go_simp))); refine hK _ ?_; clear hK K
      refine WS.step rfl (fun K hK => ?_); go_simp; (try (simp only [q1, q2, q3, q4, q5, if_false]; (try go_simp))); refine hK _ ?_; clear hK K
      refine WS.step rfl (fun K hK => ?_); go_simp; (try (simp only [q1, q2, q3, q4, q5, if_false]; (try go_simp))); refine hK _ ?_; clear hK K
      refine WS.step rfl (fun K hK => ?_); go_simp; (try (simp only [q1, q2, q3, q4, q5, if_false]; (try go_simp))); refine hK _ ?_; clear hK K
      refine WS.step rfl (fun K hK => ?_); go_simp; (try (simp only [q1, q2, q3, q4, q5, if_false]; (try go_simp))); refine hK _ ?_; clear hK K
      refine WS.step rfl (fun K hK => ?_); go_simp; (try (simp only [q1, q2, q3, q4, q5, if_false]; (try go_simp))); refine hK _ ?_; clear hK K
      refine WS.step rfl (fun K hK => ?_); go_simp; (try (simp only [q1, q2, q3, q4, q5, if_false]; (try go_simp))); refine hK _ ?_; clear hK K
      refine WS.step rfl (fun K hK => ?_); go_simp; (try (simp only [q1, q2, q3, q4, q5, if_false]; (try go_simp))); refine hK _ ?_; clear hK K
      refine WS.step rfl (fun K hK => ?_); go_simp; (try (simp only [q1, q2, q3, q4, q5, if_false]; (try go_simp))); refine hK _ ?_; clear hK K
      refine WS.step rfl (fun K hK => ?_); go_simp; (try (simp only [q1, q2, q3, q4, q5, if_false]; (try go_simp))); refine hK _ ?_; clear hK K
      refine WS.nil ?_
      clear q1 q2 q3 q4 q5
      have f3 := hFd.out.hP.free s
      have f4 : w5.cell? ⟨gW, s, none⟩ = some (.int .u32 x) := by rw [hFd.out.hP.at s hs2, hX.out]
      have hF2 := Lib.hid (hFd.out.word s (x % (4 * (n1 : Int) + 1)))
      rw [← hfw.out] at hF2
      clear hFd hfw hX hs1
      go_wp2
      go_roundw
      case rel => exact ⟨j + 1, by omega, by go_num, hF2.out⟩
      case measure => simp [intOf]; omega
    · have d2 : ¬ (j : Int) < S.length := by omega
      obtain rfl : j = S.length := by omega
      rw [← hW0.out] at hF
      replace hF := Lib.hid hF
      obtain ⟨k1, hk1⟩ : ∃ k1, k1 = min k 8 := ⟨_, rfl⟩
      have hYk : Ob.fy L.fitS n1 ns k1 = Y := by rw [hYY.out]; unfold Ob.fY; rw [hln, ← hk1]
      replace hYk := Lib.hid hYk
      replace hk1 := Lib.hid hk1
      clear hW0 hYY hSS hVr hV hRs
      go_wp2
      clear o1
      rename World => w7
      go_loopw [10] (fun i wr => ∃ (q : Nat) (A' : Option Addr) (c' : Nat), q ≤ k1 ∧ i = .int .i64 q ∧ FitSt w.heap.size w.heap.size G gW n1 cW gS cS W S A' c' (Ob.fy L.fitS n1 ns q) w wr) (fun i _ => k1 - (intOf i).toNat)
      case atStart => exact ⟨0, none, 0, Nat.zero_le _, rfl, hF.out⟩
      case round =>
        clear hF d1 d2
        obtain ⟨q, A', c', hq, rfl, hF⟩ := hrel
        have hkk := hk1.out
        replace hF := Lib.hid hF
        by_cases d1 : q < k1
        · have d2 : (q : Int) < k := by omega
          have d3 : (q : Int) < 8 := by omega
          obtain ⟨b, off, rfl⟩ := hN.out.place (by omega)
          have hcell := Lib.hid (fun w' (hb : Below w.heap.size w w') => (hN.out.below hb).at q (by omega))
          have g1 := hcell.out _ hF.out.hB
          have hsz := hN.out.size q
          have hfy := Lib.hid (show Ob.fy L.fitS n1 ns (q + 1) = Ob.ins (Ob.fy L.fitS n1 ns q) (L.fitS (ns.getD q Ob.e0)) (4 * ((((ns.getD q Ob.e0).size : Int) + q) % ((n1 : Int) + 1))) from rfl)
          have hYq := Ob.fy_len L.fitS n1 ns q
          have hq8 : q < 8 := by omega
          generalize ns.getD q Ob.e0 = s at *
          generalize Ob.fy L.fitS n1 ns q = Z at *
          clear hkk
          go_wp2_with (fail)
          refine (L.fitS_any s (by unfold maxLen; omega) wr).mono ?_; rintro e w8 ⟨rfl, hE⟩
          replace hF := Lib.hid (hF.out.below hE)
          clear hE g1
          have hT := L.fitS_size s
          have hTG := Lib.hid (L.fitS_good s)
          generalize L.fitS s = t at *
          have hZl : Z.length ≤ 7 := by omega
          go_wp2
          go_loopw [12] (fun i wr => ∃ p : Nat, p ≤ Z.length ∧ i = .int .i64 p ∧ (∀ j, j < p → Ob.bl (Ob.nm Z j) t = true) ∧ w8 = wr) (fun i _ => Z.length - (intOf i).toNat)
          case atStart => exact ⟨0, Nat.zero_le _, rfl, fun j hj => by omega, rfl⟩
          case round =>
            obtain ⟨p, hp, rfl, ho, rfl⟩ := hrel
            have o2 := hF.out.hG.cell 2 (.slice A' Z.length c') rfl
            by_cases e1 : p < Z.length
            · have e2 : (p : Int) < Z.length := by omega
              have hA' : ∃ g, A' = some ⟨g, 0, none⟩ := by
                rcases hF.out.hY.cases with ⟨_, h0, _⟩ | ⟨g, rfl, _⟩
                · omega
                · exact ⟨g, rfl⟩
              obtain ⟨g, rfl⟩ := hA'
              have g2 := hF.out.hY.sy.name p e1
              rw [Nat.zero_add] at g2
              cases e3 : Ob.bl (Ob.nm Z p) t with
              | true =>
                have R := Lib.hid (Ob.before ho e3)
                unfold Ob.bl at e3
                clear ho
                generalize Ob.nm Z p = u at *
                go_wp2
                go_roundw
                case rel => exact ⟨p + 1, by omega, by go_num, R.out, by trivial⟩
                case measure => simp [intOf]; omega
              | false =>
                have hpos := Lib.hid (Ob.pos_of Z t p hp ho (Or.inr e3))
                clear ho
                by_cases e4 : Ob.nm Z p = t
                · have R := Lib.hid (show Ob.ins Z t (4 * (((s.size : Int) + q) % ((n1 : Int) + 1))) = Z by unfold Ob.ins; rw [hpos.out, if_pos ⟨e1, e4⟩])
                  unfold Ob.bl at e3
                  rw [e4] at g2 e3
                  have e5 : (t.toList == t.toList) = true := by simp
                  go_wp2
                  rw [R.out] at hfy
                  go_roundw
                  case rel => exact ⟨q + 1, some ⟨g, 0, none⟩, c', by omega, by go_num, by rw [hfy.out]; exact hF.out⟩
                  case measure => simp [intOf]; omega
                · have R := Lib.hid (show Ob.ins Z t (4 * (((s.size : Int) + q) % ((n1 : Int) + 1))) = Z.take p ++ (t, 4 * (((s.size : Int) + q) % ((n1 : Int) + 1))) :: Z.drop p by unfold Ob.ins; rw [hpos.out, if_neg (fun h => e4 h.2)])
                  unfold Ob.bl at e3
                  have e5 : ((Ob.nm Z p).toList == t.toList) = false := by
                    rw [beq_eq_false_iff_ne]; exact fun h => e4 (Ob.toList_inj h)
                  generalize Ob.nm Z p = u at *
                  go_wp2_with (fail)
                  clear g2
                  generalize (some (⟨g, 0, none⟩ : Addr)) = A' at *
                  clear o2
                  obtain ⟨a, ha⟩ : ∃ a, a = 4 * (((s.size : Int) + q) % ((n1 : Int) + 1)) := ⟨_, rfl⟩
                  rw [← ha] at R hfy
                  obtain ⟨Z', hZ'⟩ : ∃ Z', Z' = Z.take p ++ (t, a) :: Z.drop p := ⟨_, rfl⟩
                  have hlen : p + (1 + (Z.length - p)) = Z'.length := by rw [hZ']; simp; omega
                  have hcat : Z.take p ++ ([(t, a)] ++ Z.drop p) = Z' := by rw [hZ']; rfl
                  rw [R.out, ← hZ'] at hfy
                  clear R hZ' hpos
                  replace hlen := Lib.hid hlen
                  replace hcat := Lib.hid hcat
                  have m1 := Int.emod_nonneg ((s.size : Int) + q) (show (n1 : Int) + 1 ≠ 0 by omega)
                  have m2 := Int.emod_lt_of_pos ((s.size : Int) + q) (show (0 : Int) < (n1 : Int) + 1 by omega)
                  have q1 : IntKind.i64.wrap ((s.size : Int) + q) = (s.size : Int) + q := by rw [IntKind.wrap_i64]; omega
                  have q2 : IntKind.i64.wrap ((n1 : Int) + 1) = (n1 : Int) + 1 := by rw [IntKind.wrap_i64]; omega
                  have q3 : ((n1 : Int) + 1 = 0) = False := eq_false (by omega)
                  have q4 : ((s.size : Int) + q).tmod ((n1 : Int) + 1) = ((s.size : Int) + q) % ((n1 : Int) + 1) := Int.tmod_eq_emod_of_nonneg (by omega)
                  have q5 : IntKind.i64.wrap (((s.size : Int) + q) % ((n1 : Int) + 1)) = ((s.size : Int) + q) % ((n1 : Int) + 1) := by rw [IntKind.wrap_i64]; omega
                  have q6 : IntKind.i64.wrap (4 * (((s.size : Int) + q) % ((n1 : Int) + 1))) = a := by rw [IntKind.wrap_i64, ha]; omega
                  have hSc := hF.out.hY.sy.slice p hp
                  have hpc : p ≤ c' := by have := hF.out.hY.sy.le; omega
                  obtain ⟨R, hR⟩ : ∃ R : Option Addr, (if c' = p then (A' : Option Addr) else Option.map (fun x => x.add (p * 2)) (A' : Option Addr)) = R := ⟨_, rfl⟩
                  rw [hR] at hSc
                  replace hSc := Lib.hid hSc
                  clear m1 m2 ha
                  refine wp_region_held_drew (S := fun w' => Below w8.heap.size w8 w') (by kernel_rfl) ((Below.refl _ _).drew) (fun hHeld => ?_)
                  replace hF := Lib.hid (hF.out.below hHeld)
                  replace hSc := Lib.hid (hSc.out.below hHeld)
                  refine wpAnyH_now _ _ _ _ hHeld (fun hHeld => ?_)
                  generalize w8.drew = w8d at *
                  refine wpAnyH_take (i := 0) (oi := { dst := some 105, op := Op.move (Operand.tmp 11), type := 9, pos := "ref.go:69", after := #[], guard := none }) (v := ?_) rfl (by kernel_rfl) (by kernel_rfl) (by kernel_rfl) (fun _ _ _ h => h) (Or.inl ⟨rfl, ?_⟩) hHeld ?_
                  rotate_left
                  · (intro wz hSw; go_simp; try with_reducible rfl)
                  try simp only [Act.put, List.setIfInBounds_toArray, List.set_cons_zero, List.set_cons_succ]
                  refine wpAnyH_take (i := 1) (oi := { dst := some 106, op := Op.move (Operand.tmp 2), type := 53, pos := "ref.go:69", after := #[], guard := none }) (v := ?_) rfl (by kernel_rfl) (by kernel_rfl) (by kernel_rfl) (fun _ _ _ h => h) (Or.inl ⟨rfl, ?_⟩) hHeld ?_
                  rotate_left
                  · (intro wz hSw; go_simp; try with_reducible rfl)
                  try simp only [Act.put, List.setIfInBounds_toArray, List.set_cons_zero, List.set_cons_succ]
                  refine wpAnyH_take (i := 2) (oi := { dst := some 107, op := Op.move (Operand.tmp 10), type := 3, pos := "ref.go:69", after := #[], guard := none }) (v := ?_) rfl (by kernel_rfl) (by kernel_rfl) (by kernel_rfl) (fun _ _ _ h => h) (Or.inl ⟨rfl, ?_⟩) hHeld ?_
                  rotate_left
                  · (intro wz hSw; go_simp; try with_reducible rfl)
                  try simp only [Act.put, List.setIfInBounds_toArray, List.set_cons_zero, List.set_cons_succ]
                  refine wpAnyH_take (i := 3) (oi := { dst := some 108, op := Op.indexAddr 53 (Operand.tmp 106) (Operand.tmp 107), type := 0, pos := "ref.go:69", after := #[{ on := 1, ground := Ground.data }, { on := 2, ground := Ground.data }], guard := none }) (v := ?_) rfl (by kernel_rfl) (by kernel_rfl) (by kernel_rfl) (fun _ _ _ h => h) (Or.inl ⟨rfl, ?_⟩) hHeld ?_
                  rotate_left
                  · (intro wz hSw; go_simp; try with_reducible rfl)
                  try simp only [Act.put, List.setIfInBounds_toArray, List.set_cons_zero, List.set_cons_succ]
                  refine wpAnyH_take (i := 4) (oi := { dst := some 109, op := Op.load 9 (Operand.tmp 108), type := 9, pos := "ref.go:69", after := #[{ on := 3, ground := Ground.data }], guard := none }) (v := ?_) rfl (by kernel_rfl) (by kernel_rfl) (by kernel_rfl) (fun _ _ _ h => h) (Or.inl ⟨rfl, ?_⟩) hHeld ?_
                  rotate_left
                  · (intro wz hSw; have g1 := hcell.out _ (hF.out.below hSw).hB; go_simp; try with_reducible rfl)
                  try simp only [Act.put, List.setIfInBounds_toArray, List.set_cons_zero, List.set_cons_succ]
                  refine wpAnyH_take (i := 5) (oi := { dst := some 110, op := Op.call { callee := Callee.builtin Builtin.len, args := #[Operand.tmp 109], argTypes := #[9] }, type := 3, pos := "ref.go:69", after := #[{ on := 4, ground := Ground.data }], guard := none }) (v := ?_) rfl (by kernel_rfl) (by kernel_rfl) (by kernel_rfl) (fun _ _ _ h => h) (Or.inl ⟨rfl, ?_⟩) hHeld ?_
                  rotate_left
                  · (intro wz hSw; go_simp; try with_reducible rfl)
                  try simp only [Act.put, List.setIfInBounds_toArray, List.set_cons_zero, List.set_cons_succ]
                  refine wpAnyH_take (i := 6) (oi := { dst := some 111, op := Op.move (Operand.tmp 10), type := 3, pos := "ref.go:69", after := #[], guard := none }) (v := ?_) rfl (by kernel_rfl) (by kernel_rfl) (by kernel_rfl) (fun _ _ _ h => h) (Or.inl ⟨rfl, ?_⟩) hHeld ?_
                  rotate_left
                  · (intro wz hSw; go_simp; try with_reducible rfl)
                  try simp only [Act.put, List.setIfInBounds_toArray, List.set_cons_zero, List.set_cons_succ]
                  refine wpAnyH_take (i := 7) (oi := { dst := some 112, op := Op.binOp BinOp.add 3 (Operand.tmp 110) (Operand.tmp 111) 3, type := 3, pos := "ref.go:69", after := #[{ on := 5, ground := Ground.data }, { on := 6, ground := Ground.data }], guard := none }) (v := ?_) rfl (by kernel_rfl) (by kernel_rfl) (by kernel_rfl) (fun _ _ _ h => h) (Or.inl ⟨rfl, ?_⟩) hHeld ?_
                  rotate_left
                  · (intro wz hSw; go_simp; (try simp only [q1, q2, q3, q4, q5, q6, if_false]); (try go_simp); (try simp only [q1, q2, q3, q4, q5, q6, if_false]); try with_reducible rfl)
                  try simp only [Act.put, List.setIfInBounds_toArray, List.set_cons_zero, List.set_cons_succ]
                  refine wpAnyH_take (i := 8) (oi := { dst := some 113, op := Op.move (Operand.tmp 8), type := 3, pos := "ref.go:69", after := #[], guard := none }) (v := ?_) rfl (by kernel_rfl) (by kernel_rfl) (by kernel_rfl) (fun _ _ _ h => h) (Or.inl ⟨rfl, ?_⟩) hHeld ?_
                  rotate_left
                  · (intro wz hSw; go_simp; try with_reducible rfl)
                  try simp only [Act.put, List.setIfInBounds_toArray, List.set_cons_zero, List.set_cons_succ]
                  refine wpAnyH_take (i := 9) (oi := { dst := some 114, op := Op.binOp BinOp.add 3 (Operand.tmp 113) (Operand.const (Value.int IntKind.i64 1)) 3, type := 3, pos := "ref.go:69", after := #[{ on := 8, ground := Ground.data }], guard := none }) (v := ?_) rfl (by kernel_rfl) (by kernel_rfl) (by kernel_rfl) (fun _ _ _ h => h) (Or.inl ⟨rfl, ?_⟩) hHeld ?_
                  rotate_left
                  · (intro wz hSw; go_simp; (try simp only [q1, q2, q3, q4, q5, q6, if_false]); (try go_simp); (try simp only [q1, q2, q3, q4, q5, q6, if_false]); try with_reducible rfl)
                  try simp only [Act.put, List.setIfInBounds_toArray, List.set_cons_zero, List.set_cons_succ]
                  refine wpAnyH_take (i := 10) (oi := { dst := some 115, op := Op.binOp BinOp.rem 3 (Operand.tmp 112) (Operand.tmp 114) 3, type := 3, pos := "ref.go:69", after := #[{ on := 7, ground := Ground.data }, { on := 9, ground := Ground.data }], guard := none }) (v := ?_) rfl (by kernel_rfl) (by kernel_rfl) (by kernel_rfl) (fun _ _ _ h => h) (Or.inl ⟨rfl, ?_⟩) hHeld ?_
                  rotate_left
                  · (intro wz hSw; go_simp; (try simp only [q1, q2, q3, q4, q5, q6, if_false]); (try go_simp); (try simp only [q1, q2, q3, q4, q5, q6, if_false]); try with_reducible rfl)
                  try simp only [Act.put, List.setIfInBounds_toArray, List.set_cons_zero, List.set_cons_succ]
                  refine wpAnyH_take (i := 11) (oi := { dst := some 116, op := Op.binOp BinOp.mul 3 (Operand.const (Value.int IntKind.i64 4)) (Operand.tmp 115) 3, type := 3, pos := "ref.go:69", after := #[{ on := 10, ground := Ground.data }], guard := none }) (v := ?_) rfl (by kernel_rfl) (by kernel_rfl) (by kernel_rfl) (fun _ _ _ h => h) (Or.inl ⟨rfl, ?_⟩) hHeld ?_
                  rotate_left
                  · (intro wz hSw; go_simp; (try simp only [q1, q2, q3, q4, q5, q6, if_false]); (try go_simp); (try simp only [q1, q2, q3, q4, q5, q6, if_false]); try with_reducible rfl)
                  try simp only [Act.put, List.setIfInBounds_toArray, List.set_cons_zero, List.set_cons_succ]
                  refine wpAnyH_take (i := 12) (oi := { dst := some 117, op := Op.build 69 #[(0, Operand.tmp 105), (1, Operand.tmp 116)], type := 69, pos := "ref.go:69", after := #[{ on := 0, ground := Ground.data }, { on := 11, ground := Ground.data }], guard := none }) (v := ?_) rfl (by kernel_rfl) (by kernel_rfl) (by kernel_rfl) (fun _ _ _ h => h) (Or.inl ⟨rfl, ?_⟩) hHeld ?_
                  rotate_left
                  · (intro wz hSw; go_simp; (try simp only [q1, q2, q3, q4, q5, q6, if_false]); (try go_simp); (try simp only [q1, q2, q3, q4, q5, q6, if_false]); try with_reducible rfl)
                  try simp only [Act.put, List.setIfInBounds_toArray, List.set_cons_zero, List.set_cons_succ]
                  refine wpAnyH_take (i := 14) (oi := { dst := some 119, op := Op.fieldAddr 26 (Operand.tmp 7) 2, type := 0, pos := "ref.go:69", after := #[], guard := none }) (v := ?_) rfl (by kernel_rfl) (by kernel_rfl) (by kernel_rfl) (fun _ _ _ h => h) (Or.inl ⟨rfl, ?_⟩) hHeld ?_
                  rotate_left
                  · (intro wz hSw; go_simp; try with_reducible rfl)
                  try simp only [Act.put, List.setIfInBounds_toArray, List.set_cons_zero, List.set_cons_succ]
                  refine wpAnyH_take (i := 15) (oi := { dst := some 120, op := Op.load 24 (Operand.tmp 119), type := 24, pos := "ref.go:69", after := #[{ on := 14, ground := Ground.data }], guard := none }) (v := ?_) rfl (by kernel_rfl) (by kernel_rfl) (by kernel_rfl) (fun _ _ _ h => h) (Or.inl ⟨rfl, ?_⟩) hHeld ?_
                  rotate_left
                  · (intro wz hSw; have o2 := (hF.out.below hSw).hG.cell 2 (.slice A' Z.length c') rfl; go_simp; try with_reducible rfl)
                  try simp only [Act.put, List.setIfInBounds_toArray, List.set_cons_zero, List.set_cons_succ]
                  refine wpAnyH_take (i := 16) (oi := { dst := some 121, op := Op.move (Operand.tmp 12), type := 3, pos := "ref.go:69", after := #[], guard := none }) (v := ?_) rfl (by kernel_rfl) (by kernel_rfl) (by kernel_rfl) (fun _ _ _ h => h) (Or.inl ⟨rfl, ?_⟩) hHeld ?_
                  rotate_left
                  · (intro wz hSw; go_simp; try with_reducible rfl)
                  try simp only [Act.put, List.setIfInBounds_toArray, List.set_cons_zero, List.set_cons_succ]
                  refine wpAnyH_take (i := 17) (oi := { dst := some 122, op := Op.slice 24 (Operand.tmp 120) (some (Operand.tmp 121)) none none, type := 24, pos := "ref.go:69", after := #[{ on := 15, ground := Ground.data }, { on := 16, ground := Ground.data }], guard := none }) (v := ?_) rfl (by kernel_rfl) (by kernel_rfl) (by kernel_rfl) (fun _ _ _ h => h) (Or.inl ⟨rfl, ?_⟩) hHeld ?_
                  rotate_left
                  · (intro wz hSw; go_simp; (try simp only [hR]); try with_reducible rfl)
                  try simp only [Act.put, List.setIfInBounds_toArray, List.set_cons_zero, List.set_cons_succ]
                  refine wpAnyH_ready (rs := [13]) (by kernel_rfl) (by simp) ?_
                  refine AllReadyH.cons (o := { dst := some 118, op := Op.buildSlice 24 1 #[(0, Operand.tmp 117)], type := 24, pos := "ref.go:69", after := #[{ on := 12, ground := Ground.data }], guard := none }) rfl (fun K hK => ?_) AllReadyH.nil
                  go_simp
                  have hE := ((Kept.refl w8d).alloc #[.string t, .int .i64 a] 69).below
                  have hb9 := Lib.hid hE
                  have hO9 := Lib.hid (Os.one 69 t a w8d w8d.heap.size (Nat.le_refl _))
                  generalize w8d.alloc (.cells #[.string t, .int .i64 a] 69) = w9 at *
                  clear hHeld
                  refine hK.out _ _ hE (fun hHeld => ?_)
                  clear hK K hE
                  try simp only [Act.put, List.setIfInBounds_toArray, List.set_cons_zero, List.set_cons_succ]
                  refine wpAnyH_ready (rs := [18]) (by kernel_rfl) (by simp) ?_
                  refine AllReadyH.cons (o := { dst := some 123, op := Op.call { callee := Callee.builtin Builtin.append, args := #[Operand.tmp 118, Operand.tmp 122], argTypes := #[24, 24] }, type := 24, pos := "ref.go:69", after := #[{ on := 13, ground := Ground.data }, { on := 17, ground := Ground.data }], guard := none }) rfl (fun K hK => ?_) AllReadyH.nil
                  refine append_syK Try.underlying24 Ob.info39 rfl (by omega) (.tmp 118) (.tmp 122) rfl w8d.heap.size w8d.heap.size 1 1 [(t, a)] rfl hO9.out R (Z.length - p) (c' - p) (Z.drop p) rfl (hSc.out.below hb9.out) (by omega) hb9.out.size ?_
                  intro g5 cap5 w10 hO10 hG10
                  have hE := hb9.out.grown hG10 hb9.out.size (fun q e => by cases e; exact Nat.le_refl _)
                  replace hO10 := Lib.hid hO10.sy
                  clear hG10 hO9 hb9
                  clear hHeld
                  refine hK.out _ _ hE (fun hHeld => ?_)
                  clear hK K
                  replace hF := Lib.hid (hF.out.below hE)
                  replace hSc := Lib.hid (hSc.out.below hE)
                  refine wpAnyH_now _ _ _ _ hE (fun hHeld => ?_)
                  clear hE
                  try simp only [Act.put, List.setIfInBounds_toArray, List.set_cons_zero, List.set_cons_succ]
                  refine wpAnyH_take (i := 19) (oi := { dst := some 13, op := Op.assign (Operand.tmp 123), type := 24, pos := "ref.go:69", after := #[{ on := 18, ground := Ground.data }, { on := 18, ground := Ground.chain }, { on := 0, ground := Ground.phase }, { on := 1, ground := Ground.phase }, { on := 2, ground := Ground.phase }, { on := 3, ground := Ground.phase }, { on := 4, ground := Ground.phase }, { on := 5, ground := Ground.phase }, { on := 6, ground := Ground.phase }, { on := 7, ground := Ground.phase }, { on := 8, ground := Ground.phase }, { on := 9, ground := Ground.phase }, { on := 10, ground := Ground.phase }, { on := 11, ground := Ground.phase }, { on := 12, ground := Ground.phase }, { on := 13, ground := Ground.phase }, { on := 14, ground := Ground.phase }, { on := 15, ground := Ground.phase }, { on := 16, ground := Ground.phase }, { on := 17, ground := Ground.phase }, { on := 18, ground := Ground.phase }], guard := none }) (v := ?_) rfl (by kernel_rfl) (by kernel_rfl) (by kernel_rfl) (fun _ _ _ h => h) (Or.inl ⟨rfl, ?_⟩) hHeld ?_
                  rotate_left
                  · (intro wz hSw; go_simp; try with_reducible rfl)
                  try simp only [Act.put, List.setIfInBounds_toArray, List.set_cons_zero, List.set_cons_succ]
                  refine wpAnyH_done (by kernel_rfl) ?_ _
                  have hEa := ((Kept.refl w10).alloc #[] 69).below
                  have hO11 := Lib.hid (Os.new 69 w10 w10.heap.size (Nat.le_refl _))
                  have hFa := hF.out.below hEa
                  have o2 := hFa.hG.cell 2 (.slice A' Z.length c') rfl
                  have hYp := Lib.hid (hFa.hY.sy.take p hp)
                  have hsa := hEa.size
                  have hlow : w.heap.size ≤ w10.heap.size := by have := hF.out.hG.lt; have := hF.out.hGb; omega
                  replace hEa := Lib.hid hEa
                  clear hFa hR hSc q1 q2 q3 q4 q5 q6
                  go_wp2_with (first
                    | (with_reducible refine append_sy (o := ⟨some 129, _, _, _, _, _⟩) Try.underlying24 Ob.info39 rfl (by omega) rfl (.tmp 124) (.tmp 128) rfl w10.heap.size (some ⟨w10.heap.size, 0, none⟩) 0 0 [] rfl hO11.out A' p c' (Z.take p) rfl hYp.out (by omega) hsa (Or.inl (by simp)) ?_
                       intro g6 cap6 w11 hO12 hG12
                       rw [List.nil_append, Nat.zero_add] at hO12
                       rw [Nat.zero_add]
                       have hEb := Lib.hid (hEa.out.grown hG12 hsa (fun q e => by cases e; exact Nat.le_refl _))
                       have hq2 := Lib.hid (hO10.out.below hEb.out)
                       have hsb := hEb.out.size
                       have hg6 := hO12.has.1
                       replace hO12 := Lib.hid hO12
                       clear hG12 hsa hYp hO11 o2)
                    | (with_reducible refine append_sy (o := ⟨some 131, _, _, _, _, _⟩) Try.underlying24 Ob.info39 rfl (by omega) rfl (.tmp 129) (.tmp 130) rfl w10.heap.size (some ⟨g6, 0, none⟩) p cap6 (Z.take p) rfl hO12.out (some ⟨g5, 0, none⟩) (1 + (Z.length - p)) cap5 ([(t, a)] ++ Z.drop p) rfl hq2.out (by omega) hsb (Or.inl (by simp)) ?_
                       intro g7 cap7 w12 hO13 hG13
                       rw [hcat.out, hlen.out] at hO13
                       rw [hlen.out]
                       have hEc := hEb.out.grown hG13 hsb (fun q e => by cases e; exact hg6)
                       have hFc := hF.out.below hEc
                       have f1 := hFc.hG.cell 2 (.slice A' Z.length c') rfl
                       have f2 := hFc.hG.free 2
                       have hF2 := Lib.hid (hFc.syms (hO13.lower hlow))
                       clear hG13 hO13 hEc hFc hq2 hsb hg6 hO12))
                  go_roundw
                  case rel => exact ⟨q + 1, some ⟨g7, 0, none⟩, cap7, by omega, by go_num, by rw [hfy.out]; exact hF2.out⟩
                  case measure => simp [intOf]; omega
            · have e2 : ¬ (p : Int) < Z.length := by omega
              have hpos := Lib.hid (Ob.pos_of Z t p hp ho (Or.inl (by omega)))
              clear ho
              have R := Lib.hid (show Ob.ins Z t (4 * (((s.size : Int) + q) % ((n1 : Int) + 1))) = Z.take p ++ (t, 4 * (((s.size : Int) + q) % ((n1 : Int) + 1))) :: Z.drop p by unfold Ob.ins; rw [hpos.out, if_neg (fun h => e1 h.1)])
              go_wp2_with (fail)
              clear o2
              obtain ⟨a, ha⟩ : ∃ a, a = 4 * (((s.size : Int) + q) % ((n1 : Int) + 1)) := ⟨_, rfl⟩
              rw [← ha] at R hfy
              obtain ⟨Z', hZ'⟩ : ∃ Z', Z' = Z.take p ++ (t, a) :: Z.drop p := ⟨_, rfl⟩
              have hlen : p + (1 + (Z.length - p)) = Z'.length := by rw [hZ']; simp; omega
              have hcat : Z.take p ++ ([(t, a)] ++ Z.drop p) = Z' := by rw [hZ']; rfl
              rw [R.out, ← hZ'] at hfy
              clear R hZ' hpos
              replace hlen := Lib.hid hlen
              replace hcat := Lib.hid hcat
              have m1 := Int.emod_nonneg ((s.size : Int) + q) (show (n1 : Int) + 1 ≠ 0 by omega)
              have m2 := Int.emod_lt_of_pos ((s.size : Int) + q) (show (0 : Int) < (n1 : Int) + 1 by omega)
              have q1 : IntKind.i64.wrap ((s.size : Int) + q) = (s.size : Int) + q := by rw [IntKind.wrap_i64]; omega
              have q2 : IntKind.i64.wrap ((n1 : Int) + 1) = (n1 : Int) + 1 := by rw [IntKind.wrap_i64]; omega
              have q3 : ((n1 : Int) + 1 = 0) = False := eq_false (by omega)
              have q4 : ((s.size : Int) + q).tmod ((n1 : Int) + 1) = ((s.size : Int) + q) % ((n1 : Int) + 1) := Int.tmod_eq_emod_of_nonneg (by omega)
              have q5 : IntKind.i64.wrap (((s.size : Int) + q) % ((n1 : Int) + 1)) = ((s.size : Int) + q) % ((n1 : Int) + 1) := by rw [IntKind.wrap_i64]; omega
              have q6 : IntKind.i64.wrap (4 * (((s.size : Int) + q) % ((n1 : Int) + 1))) = a := by rw [IntKind.wrap_i64, ha]; omega
              have hSc := hF.out.hY.sy.slice p hp
              have hpc : p ≤ c' := by have := hF.out.hY.sy.le; omega
              obtain ⟨R, hR⟩ : ∃ R : Option Addr, (if c' = p then (A' : Option Addr) else Option.map (fun x => x.add (p * 2)) (A' : Option Addr)) = R := ⟨_, rfl⟩
              rw [hR] at hSc
              replace hSc := Lib.hid hSc
              clear m1 m2 ha
              refine wp_region_held_drew (S := fun w' => Below w8.heap.size w8 w') (by kernel_rfl) ((Below.refl _ _).drew) (fun hHeld => ?_)
              replace hF := Lib.hid (hF.out.below hHeld)
              replace hSc := Lib.hid (hSc.out.below hHeld)
              refine wpAnyH_now _ _ _ _ hHeld (fun hHeld => ?_)
              generalize w8.drew = w8d at *
              refine wpAnyH_take (i := 0) (oi := { dst := some 105, op := Op.move (Operand.tmp 11), type := 9, pos := "ref.go:69", after := #[], guard := none }) (v := ?_) rfl (by kernel_rfl) (by kernel_rfl) (by kernel_rfl) (fun _ _ _ h => h) (Or.inl ⟨rfl, ?_⟩) hHeld ?_
              rotate_left
              · (intro wz hSw; go_simp; try with_reducible rfl)
              try simp only [Act.put, List.setIfInBounds_toArray, List.set_cons_zero, List.set_cons_succ]
              refine wpAnyH_take (i := 1) (oi := { dst := some 106, op := Op.move (Operand.tmp 2), type := 53, pos := "ref.go:69", after := #[], guard := none }) (v := ?_) rfl (by kernel_rfl) (by kernel_rfl) (by kernel_rfl) (fun _ _ _ h => h) (Or.inl ⟨rfl, ?_⟩) hHeld ?_
              rotate_left
              · (intro wz hSw; go_simp; try with_reducible rfl)
              try simp only [Act.put, List.setIfInBounds_toArray, List.set_cons_zero, List.set_cons_succ]
              refine wpAnyH_take (i := 2) (oi := { dst := some 107, op := Op.move (Operand.tmp 10), type := 3, pos := "ref.go:69", after := #[], guard := none }) (v := ?_) rfl (by kernel_rfl) (by kernel_rfl) (by kernel_rfl) (fun _ _ _ h => h) (Or.inl ⟨rfl, ?_⟩) hHeld ?_
              rotate_left
              · (intro wz hSw; go_simp; try with_reducible rfl)
              try simp only [Act.put, List.setIfInBounds_toArray, List.set_cons_zero, List.set_cons_succ]
              refine wpAnyH_take (i := 3) (oi := { dst := some 108, op := Op.indexAddr 53 (Operand.tmp 106) (Operand.tmp 107), type := 0, pos := "ref.go:69", after := #[{ on := 1, ground := Ground.data }, { on := 2, ground := Ground.data }], guard := none }) (v := ?_) rfl (by kernel_rfl) (by kernel_rfl) (by kernel_rfl) (fun _ _ _ h => h) (Or.inl ⟨rfl, ?_⟩) hHeld ?_
              rotate_left
              · (intro wz hSw; go_simp; try with_reducible rfl)
              try simp only [Act.put, List.setIfInBounds_toArray, List.set_cons_zero, List.set_cons_succ]
              refine wpAnyH_take (i := 4) (oi := { dst := some 109, op := Op.load 9 (Operand.tmp 108), type := 9, pos := "ref.go:69", after := #[{ on := 3, ground := Ground.data }], guard := none }) (v := ?_) rfl (by kernel_rfl) (by kernel_rfl) (by kernel_rfl) (fun _ _ _ h => h) (Or.inl ⟨rfl, ?_⟩) hHeld ?_
              rotate_left
              · (intro wz hSw; have g1 := hcell.out _ (hF.out.below hSw).hB; go_simp; try with_reducible rfl)
              try simp only [Act.put, List.setIfInBounds_toArray, List.set_cons_zero, List.set_cons_succ]
              refine wpAnyH_take (i := 5) (oi := { dst := some 110, op := Op.call { callee := Callee.builtin Builtin.len, args := #[Operand.tmp 109], argTypes := #[9] }, type := 3, pos := "ref.go:69", after := #[{ on := 4, ground := Ground.data }], guard := none }) (v := ?_) rfl (by kernel_rfl) (by kernel_rfl) (by kernel_rfl) (fun _ _ _ h => h) (Or.inl ⟨rfl, ?_⟩) hHeld ?_
              rotate_left
              · (intro wz hSw; go_simp; try with_reducible rfl)
              try simp only [Act.put, List.setIfInBounds_toArray, List.set_cons_zero, List.set_cons_succ]
              refine wpAnyH_take (i := 6) (oi := { dst := some 111, op := Op.move (Operand.tmp 10), type := 3, pos := "ref.go:69", after := #[], guard := none }) (v := ?_) rfl (by kernel_rfl) (by kernel_rfl) (by kernel_rfl) (fun _ _ _ h => h) (Or.inl ⟨rfl, ?_⟩) hHeld ?_
              rotate_left
              · (intro wz hSw; go_simp; try with_reducible rfl)
              try simp only [Act.put, List.setIfInBounds_toArray, List.set_cons_zero, List.set_cons_succ]
              refine wpAnyH_take (i := 7) (oi := { dst := some 112, op := Op.binOp BinOp.add 3 (Operand.tmp 110) (Operand.tmp 111) 3, type := 3, pos := "ref.go:69", after := #[{ on := 5, ground := Ground.data }, { on := 6, ground := Ground.data }], guard := none }) (v := ?_) rfl (by kernel_rfl) (by kernel_rfl) (by kernel_rfl) (fun _ _ _ h => h) (Or.inl ⟨rfl, ?_⟩) hHeld ?_
              rotate_left
              · (intro wz hSw; go_simp; (try simp only [q1, q2, q3, q4, q5, q6, if_false]); (try go_simp); (try simp only [q1, q2, q3, q4, q5, q6, if_false]); try with_reducible rfl)
              try simp only [Act.put, List.setIfInBounds_toArray, List.set_cons_zero, List.set_cons_succ]
              refine wpAnyH_take (i := 8) (oi := { dst := some 113, op := Op.move (Operand.tmp 8), type := 3, pos := "ref.go:69", after := #[], guard := none }) (v := ?_) rfl (by kernel_rfl) (by kernel_rfl) (by kernel_rfl) (fun _ _ _ h => h) (Or.inl ⟨rfl, ?_⟩) hHeld ?_
              rotate_left
              · (intro wz hSw; go_simp; try with_reducible rfl)
              try simp only [Act.put, List.setIfInBounds_toArray, List.set_cons_zero, List.set_cons_succ]
              refine wpAnyH_take (i := 9) (oi := { dst := some 114, op := Op.binOp BinOp.add 3 (Operand.tmp 113) (Operand.const (Value.int IntKind.i64 1)) 3, type := 3, pos := "ref.go:69", after := #[{ on := 8, ground := Ground.data }], guard := none }) (v := ?_) rfl (by kernel_rfl) (by kernel_rfl) (by kernel_rfl) (fun _ _ _ h => h) (Or.inl ⟨rfl, ?_⟩) hHeld ?_
              rotate_left
              · (intro wz hSw; go_simp; (try simp only [q1, q2, q3, q4, q5, q6, if_false]); (try go_simp); (try simp only [q1, q2, q3, q4, q5, q6, if_false]); try with_reducible rfl)
              try simp only [Act.put, List.setIfInBounds_toArray, List.set_cons_zero, List.set_cons_succ]
              refine wpAnyH_take (i := 10) (oi := { dst := some 115, op := Op.binOp BinOp.rem 3 (Operand.tmp 112) (Operand.tmp 114) 3, type := 3, pos := "ref.go:69", after := #[{ on := 7, ground := Ground.data }, { on := 9, ground := Ground.data }], guard := none }) (v := ?_) rfl (by kernel_rfl) (by kernel_rfl) (by kernel_rfl) (fun _ _ _ h => h) (Or.inl ⟨rfl, ?_⟩) hHeld ?_
              rotate_left
              · (intro wz hSw; go_simp; (try simp only [q1, q2, q3, q4, q5, q6, if_false]); (try go_simp); (try simp only [q1, q2, q3, q4, q5, q6, if_false]); try with_reducible rfl)
              try simp only [Act.put, List.setIfInBounds_toArray, List.set_cons_zero, List.set_cons_succ]
              refine wpAnyH_take (i := 11) (oi := { dst := some 116, op := Op.binOp BinOp.mul 3 (Operand.const (Value.int IntKind.i64 4)) (Operand.tmp 115) 3, type := 3, pos := "ref.go:69", after := #[{ on := 10, ground := Ground.data }], guard := none }) (v := ?_) rfl (by kernel_rfl) (by kernel_rfl) (by kernel_rfl) (fun _ _ _ h => h) (Or.inl ⟨rfl, ?_⟩) hHeld ?_
              rotate_left
              · (intro wz hSw; go_simp; (try simp only [q1, q2, q3, q4, q5, q6, if_false]); (try go_simp); (try simp only [q1, q2, q3, q4, q5, q6, if_false]); try with_reducible rfl)
              try simp only [Act.put, List.setIfInBounds_toArray, List.set_cons_zero, List.set_cons_succ]
              refine wpAnyH_take (i := 12) (oi := { dst := some 117, op := Op.build 69 #[(0, Operand.tmp 105), (1, Operand.tmp 116)], type := 69, pos := "ref.go:69", after := #[{ on := 0, ground := Ground.data }, { on := 11, ground := Ground.data }], guard := none }) (v := ?_) rfl (by kernel_rfl) (by kernel_rfl) (by kernel_rfl) (fun _ _ _ h => h) (Or.inl ⟨rfl, ?_⟩) hHeld ?_
              rotate_left
              · (intro wz hSw; go_simp; (try simp only [q1, q2, q3, q4, q5, q6, if_false]); (try go_simp); (try simp only [q1, q2, q3, q4, q5, q6, if_false]); try with_reducible rfl)
              try simp only [Act.put, List.setIfInBounds_toArray, List.set_cons_zero, List.set_cons_succ]
              refine wpAnyH_take (i := 14) (oi := { dst := some 119, op := Op.fieldAddr 26 (Operand.tmp 7) 2, type := 0, pos := "ref.go:69", after := #[], guard := none }) (v := ?_) rfl (by kernel_rfl) (by kernel_rfl) (by kernel_rfl) (fun _ _ _ h => h) (Or.inl ⟨rfl, ?_⟩) hHeld ?_
              rotate_left
              · (intro wz hSw; go_simp; try with_reducible rfl)
              try simp only [Act.put, List.setIfInBounds_toArray, List.set_cons_zero, List.set_cons_succ]
              refine wpAnyH_take (i := 15) (oi := { dst := some 120, op := Op.load 24 (Operand.tmp 119), type := 24, pos := "ref.go:69", after := #[{ on := 14, ground := Ground.data }], guard := none }) (v := ?_) rfl (by kernel_rfl) (by kernel_rfl) (by kernel_rfl) (fun _ _ _ h => h) (Or.inl ⟨rfl, ?_⟩) hHeld ?_
              rotate_left
              · (intro wz hSw; have o2 := (hF.out.below hSw).hG.cell 2 (.slice A' Z.length c') rfl; go_simp; try with_reducible rfl)
              try simp only [Act.put, List.setIfInBounds_toArray, List.set_cons_zero, List.set_cons_succ]
              refine wpAnyH_take (i := 16) (oi := { dst := some 121, op := Op.move (Operand.tmp 12), type := 3, pos := "ref.go:69", after := #[], guard := none }) (v := ?_) rfl (by kernel_rfl) (by kernel_rfl) (by kernel_rfl) (fun _ _ _ h => h) (Or.inl ⟨rfl, ?_⟩) hHeld ?_
              rotate_left
              · (intro wz hSw; go_simp; try with_reducible rfl)
              try simp only [Act.put, List.setIfInBounds_toArray, List.set_cons_zero, List.set_cons_succ]
              refine wpAnyH_take (i := 17) (oi := { dst := some 122, op := Op.slice 24 (Operand.tmp 120) (some (Operand.tmp 121)) none none, type := 24, pos := "ref.go:69", after := #[{ on := 15, ground := Ground.data }, { on := 16, ground := Ground.data }], guard := none }) (v := ?_) rfl (by kernel_rfl) (by kernel_rfl) (by kernel_rfl) (fun _ _ _ h => h) (Or.inl ⟨rfl, ?_⟩) hHeld ?_
              rotate_left
              · (intro wz hSw; go_simp; (try simp only [hR]); try with_reducible rfl)
              try simp only [Act.put, List.setIfInBounds_toArray, List.set_cons_zero, List.set_cons_succ]
              refine wpAnyH_ready (rs := [13]) (by kernel_rfl) (by simp) ?_
              refine AllReadyH.cons (o := { dst := some 118, op := Op.buildSlice 24 1 #[(0, Operand.tmp 117)], type := 24, pos := "ref.go:69", after := #[{ on := 12, ground := Ground.data }], guard := none }) rfl (fun K hK => ?_) AllReadyH.nil
              go_simp
              have hE := ((Kept.refl w8d).alloc #[.string t, .int .i64 a] 69).below
              have hb9 := Lib.hid hE
              have hO9 := Lib.hid (Os.one 69 t a w8d w8d.heap.size (Nat.le_refl _))
              generalize w8d.alloc (.cells #[.string t, .int .i64 a] 69) = w9 at *
              clear hHeld
              refine hK.out _ _ hE (fun hHeld => ?_)
              clear hK K hE
              try simp only [Act.put, List.setIfInBounds_toArray, List.set_cons_zero, List.set_cons_succ]
              refine wpAnyH_ready (rs := [18]) (by kernel_rfl) (by simp) ?_
              refine AllReadyH.cons (o := { dst := some 123, op := Op.call { callee := Callee.builtin Builtin.append, args := #[Operand.tmp 118, Operand.tmp 122], argTypes := #[24, 24] }, type := 24, pos := "ref.go:69", after := #[{ on := 13, ground := Ground.data }, { on := 17, ground := Ground.data }], guard := none }) rfl (fun K hK => ?_) AllReadyH.nil
              refine append_syK Try.underlying24 Ob.info39 rfl (by omega) (.tmp 118) (.tmp 122) rfl w8d.heap.size w8d.heap.size 1 1 [(t, a)] rfl hO9.out R (Z.length - p) (c' - p) (Z.drop p) rfl (hSc.out.below hb9.out) (by omega) hb9.out.size ?_
              intro g5 cap5 w10 hO10 hG10
              have hE := hb9.out.grown hG10 hb9.out.size (fun q e => by cases e; exact Nat.le_refl _)
              replace hO10 := Lib.hid hO10.sy
              clear hG10 hO9 hb9
              clear hHeld
              refine hK.out _ _ hE (fun hHeld => ?_)
              clear hK K
              replace hF := Lib.hid (hF.out.below hE)
              replace hSc := Lib.hid (hSc.out.below hE)
              refine wpAnyH_now _ _ _ _ hE (fun hHeld => ?_)
              clear hE
              try simp only [Act.put, List.setIfInBounds_toArray, List.set_cons_zero, List.set_cons_succ]
              refine wpAnyH_take (i := 19) (oi := { dst := some 13, op := Op.assign (Operand.tmp 123), type := 24, pos := "ref.go:69", after := #[{ on := 18, ground := Ground.data }, { on := 18, ground := Ground.chain }, { on := 0, ground := Ground.phase }, { on := 1, ground := Ground.phase }, { on := 2, ground := Ground.phase }, { on := 3, ground := Ground.phase }, { on := 4, ground := Ground.phase }, { on := 5, ground := Ground.phase }, { on := 6, ground := Ground.phase }, { on := 7, ground := Ground.phase }, { on := 8, ground := Ground.phase }, { on := 9, ground := Ground.phase }, { on := 10, ground := Ground.phase }, { on := 11, ground := Ground.phase }, { on := 12, ground := Ground.phase }, { on := 13, ground := Ground.phase }, { on := 14, ground := Ground.phase }, { on := 15, ground := Ground.phase }, { on := 16, ground := Ground.phase }, { on := 17, ground := Ground.phase }, { on := 18, ground := Ground.phase }], guard := none }) (v := ?_) rfl (by kernel_rfl) (by kernel_rfl) (by kernel_rfl) (fun _ _ _ h => h) (Or.inl ⟨rfl, ?_⟩) hHeld ?_
              rotate_left
              · (intro wz hSw; go_simp; try with_reducible rfl)
              try simp only [Act.put, List.setIfInBounds_toArray, List.set_cons_zero, List.set_cons_succ]
              refine wpAnyH_done (by kernel_rfl) ?_ _
              have hEa := ((Kept.refl w10).alloc #[] 69).below
              have hO11 := Lib.hid (Os.new 69 w10 w10.heap.size (Nat.le_refl _))
              have hFa := hF.out.below hEa
              have o2 := hFa.hG.cell 2 (.slice A' Z.length c') rfl
              have hYp := Lib.hid (hFa.hY.sy.take p hp)
              have hsa := hEa.size
              have hlow : w.heap.size ≤ w10.heap.size := by have := hF.out.hG.lt; have := hF.out.hGb; omega
              replace hEa := Lib.hid hEa
              clear hFa hR hSc q1 q2 q3 q4 q5 q6
              go_wp2_with (first
                | (with_reducible refine append_sy (o := ⟨some 129, _, _, _, _, _⟩) Try.underlying24 Ob.info39 rfl (by omega) rfl (.tmp 124) (.tmp 128) rfl w10.heap.size (some ⟨w10.heap.size, 0, none⟩) 0 0 [] rfl hO11.out A' p c' (Z.take p) rfl hYp.out (by omega) hsa (Or.inl (by simp)) ?_
                   intro g6 cap6 w11 hO12 hG12
                   rw [List.nil_append, Nat.zero_add] at hO12
                   rw [Nat.zero_add]
                   have hEb := Lib.hid (hEa.out.grown hG12 hsa (fun q e => by cases e; exact Nat.le_refl _))
                   have hq2 := Lib.hid (hO10.out.below hEb.out)
                   have hsb := hEb.out.size
                   have hg6 := hO12.has.1
                   replace hO12 := Lib.hid hO12
                   clear hG12 hsa hYp hO11 o2)
                | (with_reducible refine append_sy (o := ⟨some 131, _, _, _, _, _⟩) Try.underlying24 Ob.info39 rfl (by omega) rfl (.tmp 129) (.tmp 130) rfl w10.heap.size (some ⟨g6, 0, none⟩) p cap6 (Z.take p) rfl hO12.out (some ⟨g5, 0, none⟩) (1 + (Z.length - p)) cap5 ([(t, a)] ++ Z.drop p) rfl hq2.out (by omega) hsb (Or.inl (by simp)) ?_
                   intro g7 cap7 w12 hO13 hG13
                   rw [hcat.out, hlen.out] at hO13
                   rw [hlen.out]
                   have hEc := hEb.out.grown hG13 hsb (fun q e => by cases e; exact hg6)
                   have hFc := hF.out.below hEc
                   have f1 := hFc.hG.cell 2 (.slice A' Z.length c') rfl
                   have f2 := hFc.hG.free 2
                   have hF2 := Lib.hid (hFc.syms (hO13.lower hlow))
                   clear hG13 hO13 hEc hFc hq2 hsb hg6 hO12))
              go_roundw
              case rel => exact ⟨q + 1, some ⟨g7, 0, none⟩, cap7, by omega, by go_num, by rw [hfy.out]; exact hF2.out⟩
              case measure => simp [intOf]; omega
        · obtain rfl : q = k1 := by omega
          rw [hYk.out] at hF
          have f0 := hF.out.hG.cell 0 (.slice (some ⟨gW, 0, none⟩) n1 cW) rfl
          have f1 := hF.out.hG.cell 1 (.slice (some ⟨gS, 0, none⟩) S.length cS) rfl
          have f2 := hF.out.hG.cell 2 (.slice A' Y.length c') rfl
          have hkc : q < k → ¬ (q : Int) < 8 := by omega
          clear hkk
          by_cases d2 : q < k
          · have d3 : (q : Int) < k := by omega
            have d4 := hkc d2
            clear hkc
            go_wp2_with (with_reducible refine store_has (o := ⟨none, _, _, _, _, _⟩) rfl 26 (.tmp 6) (.tmp 133) rfl w.heap.size #[.slice (some ⟨gW, 0, none⟩) n1 cW, .slice (some ⟨gS, 0, none⟩) S.length cS, .slice A' Y.length c'] rfl rfl hF.out.hZ (Ob.info26 _ _ _) rfl (Ob.oneS _ _ _ _ _ _ _ _ _) ?_)
            refine bodyPost_ret (results_has rfl w.heap.size rfl (hF.out.hZ.row _) Try.underlying26 rfl (Ob.info26 _ _ _)) rfl ?_
            exact ⟨gW, cW, gS, cS, A', c', rfl, hF.out.hP.on.otherRow hF.out.hZ (by decide) _, hF.out.hQ.on.otherRow hF.out.hZ (by decide) _, hF.out.hY.otherRow hF.out.hZ (by decide) _, Bel.setRow hF.out.hB (Nat.le_refl _) _⟩
          · have d3 : ¬ (q : Int) < k := by omega
            clear hkc
            go_wp2_with (with_reducible refine store_has (o := ⟨none, _, _, _, _, _⟩) rfl 26 (.tmp 6) (.tmp 133) rfl w.heap.size #[.slice (some ⟨gW, 0, none⟩) n1 cW, .slice (some ⟨gS, 0, none⟩) S.length cS, .slice A' Y.length c'] rfl rfl hF.out.hZ (Ob.info26 _ _ _) rfl (Ob.oneS _ _ _ _ _ _ _ _ _) ?_)
            refine bodyPost_ret (results_has rfl w.heap.size rfl (hF.out.hZ.row _) Try.underlying26 rfl (Ob.info26 _ _ _)) rfl ?_
            exact ⟨gW, cW, gS, cS, A', c', rfl, hF.out.hP.on.otherRow hF.out.hZ (by decide) _, hF.out.hQ.on.otherRow hF.out.hZ (by decide) _, hF.out.hY.otherRow hF.out.hZ (by decide) _, Bel.setRow hF.out.hB (Nat.le_refl _) _⟩
end Go.Proofs.Ytpfgmfiegnkocaa
