/-
  Joined: Fi1, Fi2.
-/
import Derived.Test.YtpfejjkoemnmiaaM04
import Derived.Test.YtpfejjkoemnmiaaM05
import Derived.Test.YtpfejjkoemnmiaaOb7
/-
  The contracts of takeWords and takeSym of package file.
-/
namespace Go.Proofs.Ytpfejjkoemnmiaa
open Go.RowKit
set_option linter.unusedVariables false
set_option linter.unusedSimpArgs false
set_option maxRecDepth 100000
set_option maxRecDepth 100000
/-- where the rest of a slice lies -/
def Fi.at (A : Option Addr) (c i : Nat) : Option Addr := if c = i then A else A.map (fun x => x.add i)
section
variable {k : IntKind} {L : Int} {w : World} {A : Option Addr} {n c : Nat} {xs : List Int}
/-- the beginning of a slice, with no room behind it; the rest of a slice -/
theorem Rw.cut (h : Rw k L w A n c xs) (m : Nat) (hm : m ≤ n) : Rw k L w A m m (xs.take m) :=
  ⟨by rw [List.length_take, h.len]; omega, Nat.le_refl _, by have := h.le; have := h.max; omega, fun e => by have := h.nil e; have := h.le; omega, fun x hx => h.rng x (List.mem_of_mem_take hx), fun ad e j x hx => h.cel ad e j x (by
    rw [List.getElem?_take] at hx
    split at hx
    · exact hx
    · cases hx)⟩
theorem Rw.tail (h : Rw k L w A n c xs) (i : Nat) (hi : i ≤ n) : Rw k L w (Fi.at A c i) (n - i) (c - i) (xs.drop i) := by
  unfold Fi.at
  have hl := h.len
  have hle := h.le
  refine ⟨by simp [hl], by omega, by have := h.max; omega, ?_, fun x hx => h.rng x (List.mem_of_mem_drop hx), ?_⟩
  · split
    · intro e; have := h.nil e; omega
    · cases A with
      | none => intro _; have := h.nil rfl; omega
      | some ad => intro e; cases e
  · intro ad e j v hv
    rw [List.getElem?_drop] at hv
    split at e
    · rename_i hc
      rw [List.getElem?_eq_none (by omega)] at hv
      cases hv
    · cases A with
      | none => cases e
      | some a0 =>
        simp only [Option.map_some, Option.some.injEq] at e
        subst e
        rw [add_add]
        exact h.cel a0 rfl _ v hv
end
theorem Fi.words_take (bs : List Int) (n : Nat) (h : 4 * n ≤ bs.length) : L.words (bs.take (4 * n)) n = L.words bs n := by
  unfold L.words
  apply List.map_congr_left
  intro i hi
  have hi := List.mem_range.1 hi
  have key : ∀ q, q < 4 * n → (bs.take (4 * n)).getD q 0 = bs.getD q 0 := fun q hq => by
    rw [List.getD_eq_getElem?_getD, List.getD_eq_getElem?_getD, List.getElem?_take, if_pos hq]
  unfold L.word
  rw [key _ (by omega), key _ (by omega), key _ (by omega), key _ (by omega)]
set_option maxRecDepth 100000 in
theorem Fi.takeWords_no {w : World} {A : Option Addr} {m c : Nat} (hm : m ≤ 1000000) (n : Nat) (hn : n ≤ 1000000) (hs : m < 4 * n) :
    Calls Try.prog 59 #[.slice A m c, .int .i64 n] w fun e w' => e = .returned (.tuple #[.slice none 0 0, .slice none 0 0, .int .i64 3]) ∧ Below w.heap.size w w' := by
  have c1 : (m : Int) < 4 * n := by omega
  go_enter Try.func59, Try.ntmps59
  go_wp2
  go_ret3
  exact ⟨rfl, Below.refl _ _⟩
set_option maxRecDepth 100000 in
theorem Fi.takeWords_yes {w : World} {A : Option Addr} {m c : Nat} {bs : List Int} (h : By w A m c bs) (hm : m ≤ 1000000) (n : Nat) (hs : 4 * n ≤ m) :
    Calls Try.prog 59 #[.slice A m c, .int .i64 n] w fun e w' => ∃ A' k c', e = .returned (.tuple #[.slice A' k c', .slice (Fi.at A c (4 * n)) (m - 4 * n) (c - 4 * n), .int .i64 0]) ∧ Wo w' A' k c' (L.words bs n) ∧ Below w.heap.size w w' := by
  have c1 : ¬ (m : Int) < 4 * n := by omega
  have hle := h.le
  have hl := h.len
  have hX := Lib.hid (h.cut (4 * n) hs)
  have hE : L.tkE (bs.take (4 * n)) (n : Int) = 0 ∧ L.tkW (bs.take (4 * n)) (n : Int) = L.words bs n := by
    obtain ⟨e1, e2⟩ := L.tk_yes (bs := bs.take (4 * n)) (n := n) (by rw [List.length_take]; omega)
    exact ⟨e1, e2.trans (Fi.words_take bs n (by omega))⟩
  obtain ⟨q, hq⟩ : ∃ q, q = 4 * n := ⟨_, rfl⟩
  have hq1 : (4 : Int) * n = q := by omega
  rw [← hq] at hX hE hs ⊢
  rw [hq1] at c1
  have hqm : (q : Int) ≤ m := by omega
  have hqc : (q : Int) ≤ c := by omega
  have hn2 : q ≤ 1000000 := by omega
  obtain ⟨R, hR⟩ : ∃ R : Option Addr, (if c = q then A else Option.map (fun x => x.add q) A) = R := ⟨_, rfl⟩
  rw [show Fi.at A c q = R from hR]
  replace hE := Lib.hid hE
  clear h hq
  go_enter Try.func59, Try.ntmps59
  go_wp2_with (fail)
  refine (L.take_any hX.out hn2 (n : Int)).mono ?_; rintro e w2 ⟨A', k, c', rfl, hW, hB⟩
  rw [hE.out.1]
  rw [hE.out.2] at hW
  replace hW := Lib.hid hW
  replace hB := Lib.hid hB
  clear hX hE
  go_wp2
  go_quiet (fail)
  go_wp2
  go_ret3
  exact ⟨A', k, c', rfl, hW.out.below (Bel.drewN (Below.refl _ _) _), Bel.drewN hB.out _⟩
/-! a name with its place -/
theorem Fi.built52 : Try.prog.built 54 [] = some #[.string ⟨#[]⟩, .int .i64 0] := by kernel_rfl
theorem Fi.exec52 {o : Oper} {a : Act} {w : World} (ho : o.op = .build 54 #[]) : (execOp a.eval o).run Try.prog w = .ok (.value (.agg #[.string ⟨#[]⟩, .int .i64 0])) w := by
  refine exec_build 54 #[] ho _ ?_
  rw [Array.map_empty]
  exact Fi.built52
theorem Fi.info52 (x y : Value) : (Try.prog.info? 54).map (·.size) = some (#[x, y] : Array Value).size := by
  have : (Try.prog.info? 54).map (·.size) = some 2 := by kernel_rfl
  rw [this]; rfl
theorem Fi.one52 (s : ByteArray) (x : Int) : (#[.string s, .int .i64 x] : Array Value).all (·.oneCell') = true := by simp [Value.oneCell']
theorem Fi.step_cases {bs : List Int} : (¬ L.tnE bs = 0 ∧ Fi.step bs = .error (L.tnE bs)) ∨ (L.tnE bs = 0 ∧ (bs.drop (Fi.used bs)).length < 4 ∧ Fi.step bs = .error 3) ∨ (L.tnE bs = 0 ∧ 4 ≤ (bs.drop (Fi.used bs)).length ∧ Fi.step bs = .ok ((strOfNums (L.tnX bs), L.word (bs.drop (Fi.used bs)) 0), (bs.drop (Fi.used bs)).drop 4)) := by
  by_cases c : L.tnE bs = 0
  · by_cases d : (bs.drop (Fi.used bs)).length < 4
    · exact Or.inr (Or.inl ⟨c, d, Fi.step_short c d⟩)
    · exact Or.inr (Or.inr ⟨c, by omega, Fi.step_yes c d⟩)
  · exact Or.inl ⟨c, Fi.step_no c⟩
/-- what takeSym hands back -/
def Fi.SymR (A : Option Addr) (m c : Nat) (bs : List Int) (w w' : World) (e : Ending) (x : Except Int (Ob.Y × List Int)) : Prop := match x with
  | .error z => e = .returned (.tuple #[.agg #[.string ⟨#[]⟩, .int .i64 0], .slice none 0 0, .int .i64 z]) ∧ Below w.heap.size w w'
  | .ok (y, r) => ∃ B d, e = .returned (.tuple #[.agg #[.string y.1, .int .i64 y.2], .slice B r.length d, .int .i64 0]) ∧ (∀ v, By v A m c bs → By v B r.length d r) ∧ Below w.heap.size w w'
theorem L.tnE_used {bs : List Int} (h : L.tnE bs = 0) : Fi.used bs ≤ bs.length := by
  unfold Fi.used
  unfold L.tnE at h
  split at h
  · cases h
  split at h
  · cases h
  omega
set_option maxHeartbeats 1000000 in
set_option maxRecDepth 100000 in
theorem Fi.takeSym_any {w : World} {A : Option Addr} {m c : Nat} {bs : List Int} (h : By w A m c bs) (hm : m ≤ 1000000) :
    Calls Try.prog 75 #[.slice A m c] w fun e w' => Fi.SymR A m c bs w w' e (Fi.step bs) := by
  have hl := h.len
  have hle := h.le
  have hG := Lib.hid (Has.new #[.string ⟨#[]⟩, .int .i64 0] 54 w)
  have hB := (((Kept.refl w).alloc #[.string ⟨#[]⟩, .int .i64 0] 54).below)
  have hX := Lib.hid (h.below hB)
  have hS : w.heap.size ≤ (w.alloc (.cells #[.string ⟨#[]⟩, .int .i64 0] 54)).heap.size := hB.size
  replace hB := Lib.hid hB
  rcases Fi.step_cases (bs := bs) with ⟨c1, c2⟩ | ⟨c1, c2, c3⟩ | ⟨c1, c2, c3⟩
  · have hV := L.tnV_not (rfl : L.tnE bs = L.tnE bs) c1
    rw [c2]
    generalize L.tnE bs = z at *
    have c3 : (z == 0) = false := by simpa using c1
    have c4 : (z != 0) = true := by simpa using c1
    replace hV := Lib.hid hV
    clear h c2
    go_enter Try.func75, Try.ntmps75
    go_wp2_with (fail)
    generalize w.alloc (.cells #[.string ⟨#[]⟩, .int .i64 0] 54) = w1 at *
    refine (L.takeName_any hX.out hm).mono ?_; rintro e w2 ⟨rfl, hE⟩
    rw [hV.out]
    replace hB := Lib.hid (hB.out.trans (hE.mono hS))
    replace hG := Lib.hid (hG.out.below hE)
    clear hE hX
    go_wp2_with (first
      | (with_reducible refine want_do (o := ⟨some 16, _, _, _, _, _⟩) rfl (Fi.exec52 rfl) ?_)
      | (with_reducible refine store_has (o := ⟨none, _, _, _, _, _⟩) rfl 54 (.tmp 2) (.tmp 16) rfl w.heap.size #[.string ⟨#[]⟩, .int .i64 0] rfl rfl hG.out (Fi.info52 _ _) rfl (Fi.one52 _ _) ?_)
      | fail)
    refine bodyPost_ret (results_has3 rfl w.heap.size rfl (hG.out.row _) Try.underlying54 rfl (Fi.info52 _ _)) rfl ?_
    exact ⟨rfl, Bel.setRow hB.out (Nat.le_refl _) _⟩
  · rw [c3]
    have hV := Lib.hid (L.tnV_ok c1)
    have hu := L.tnE_used c1
    rw [List.length_drop, hl] at c2
    have hT := h.tail (Fi.used bs) (by omega)
    have hV2 : L.tnV bs = .tuple #[.string (strOfNums (L.tnX bs)), .int .i64 (Fi.used bs : Int), .int .i64 0] := hV.out
    rw [hl] at hu
    generalize Fi.used bs = u at *
    obtain ⟨R, hR⟩ : ∃ R : Option Addr, (if c = u then A else Option.map (fun x => x.add u) A) = R := ⟨_, rfl⟩
    rw [show Fi.at A c u = R from hR] at hT
    have huc : (u : Int) ≤ c := by omega
    have hum : (u : Int) ≤ m := by omega
    generalize strOfNums (L.tnX bs) = sx at *
    generalize bs.drop u = zs at *
    replace hV2 := Lib.hid hV2
    replace hT := Lib.hid (hT.below hB.out)
    clear h c1 c3 hV hl
    go_enter Try.func75, Try.ntmps75
    go_wp2_with (fail)
    generalize w.alloc (.cells #[.string ⟨#[]⟩, .int .i64 0] 54) = w1 at *
    refine (L.takeName_any hX.out hm).mono ?_; rintro e w2 ⟨rfl, hE⟩
    rw [hV2.out]
    replace hB := Lib.hid (hB.out.trans (hE.mono hS))
    replace hG := Lib.hid (hG.out.below hE)
    replace hS : w.heap.size ≤ w2.heap.size := Nat.le_trans hS hE.size
    clear hE hX hT hV2
    go_wp2_with (fail)
    refine (Fi.takeWords_no (A := R) (c := c - u) (m := m - u) (by omega) 1 (by omega) (by omega)).mono ?_; rintro e w3 ⟨rfl, hE⟩
    replace hB := Lib.hid (hB.out.trans (hE.mono hS))
    replace hG := Lib.hid (hG.out.below hE)
    clear hE
    go_wp2_with (first
      | (with_reducible refine want_do (o := ⟨some 28, _, _, _, _, _⟩) rfl (Fi.exec52 rfl) ?_)
      | (with_reducible refine store_has (o := ⟨none, _, _, _, _, _⟩) rfl 54 (.tmp 2) (.tmp 28) rfl w.heap.size #[.string ⟨#[]⟩, .int .i64 0] rfl rfl hG.out (Fi.info52 _ _) rfl (Fi.one52 _ _) ?_)
      | fail)
    refine bodyPost_ret (results_has3 rfl w.heap.size rfl (hG.out.row _) Try.underlying54 rfl (Fi.info52 _ _)) rfl ?_
    exact ⟨rfl, Bel.setRow hB.out (Nat.le_refl _) _⟩
  · rw [c3]
    have hV := Lib.hid (L.tnV_ok c1)
    have hu := L.tnE_used c1
    have hT := h.tail (Fi.used bs) (by omega)
    have hzl : (bs.drop (Fi.used bs)).length = m - Fi.used bs := by rw [List.length_drop, hl]
    have hV2 : L.tnV bs = .tuple #[.string (strOfNums (L.tnX bs)), .int .i64 (Fi.used bs : Int), .int .i64 0] := hV.out
    rw [hl] at hu
    have hAll := fun (v : World) (hv : By v A m c bs) => (hv.tail (Fi.used bs) hu).tail (4 * 1) (by omega)
    generalize Fi.used bs = u at *
    obtain ⟨R, hR⟩ : ∃ R : Option Addr, Option.map (fun x => x.add u) A = R := ⟨_, rfl⟩
    have hcu : ¬ c = u := by omega
    rw [show Fi.at A c u = R from (if_neg hcu).trans hR] at hT hAll
    have huc : (u : Int) ≤ c := by omega
    have hum : (u : Int) ≤ m := by omega
    generalize strOfNums (L.tnX bs) = sx at *
    generalize bs.drop u = zs at *
    replace hV2 := Lib.hid hV2
    replace hAll := Lib.hid hAll
    obtain ⟨R2, hR2⟩ : ∃ R2 : Option Addr, Fi.at R (c - u) (4 * 1) = R2 := ⟨_, rfl⟩
    replace hT := Lib.hid (hT.below hB.out)
    clear h c1 c3 hV hl
    have hpl : (zs.drop 4).length = m - u - 4 * 1 := by rw [List.length_drop]; omega
    show Calls Try.prog _ _ w fun e w' => ∃ B d, e = .returned (.tuple #[.agg #[.string sx, .int .i64 (L.word zs 0)], .slice B (zs.drop 4).length d, .int .i64 0]) ∧ (∀ v, By v A m c bs → By v B (zs.drop 4).length d (zs.drop 4)) ∧ Below w.heap.size w w'
    rw [hpl]
    go_enter Try.func75, Try.ntmps75
    go_wp2_with (fail)
    generalize w.alloc (.cells #[.string ⟨#[]⟩, .int .i64 0] 54) = w1 at *
    refine (L.takeName_any hX.out hm).mono ?_; rintro e w2 ⟨rfl, hE⟩
    rw [hV2.out]
    replace hB := Lib.hid (hB.out.trans (hE.mono hS))
    replace hG := Lib.hid (hG.out.below hE)
    replace hT := Lib.hid (hT.out.below hE)
    replace hS : w.heap.size ≤ w2.heap.size := Nat.le_trans hS hE.size
    clear hE hX hV2
    go_wp2_with (fail)
    refine (Fi.takeWords_yes hT.out (by omega) 1 (by omega)).mono ?_; rintro e w3 ⟨A', k, c', rfl, hW, hE⟩
    replace hB := Lib.hid (hB.out.trans (hE.mono hS))
    replace hG := Lib.hid (hG.out.below hE)
    have hk : k = 1 := by have := hW.len; rw [← this]; rfl
    subst hk
    obtain ⟨b, off, rfl⟩ := hW.place (by omega)
    have g1 := hW.cellAt 0 (L.word zs 0) rfl
    rw [Nat.add_zero] at g1
    have hx := hW.rng (L.word zs 0) (by simp [L.words])
    generalize hxe : L.word zs 0 = x at g1 hx
    replace hxe := Lib.hid hxe
    have hx1 := hx.1
    have hx2 := hx.2
    have hAll2 := hAll.out
    rw [hR2] at hAll2 ⊢
    replace hAll2 := Lib.hid hAll2
    clear hAll
    clear hE hT hW hx
    go_wp2_with (first
      | (with_reducible refine store_has (o := ⟨none, _, _, _, _, _⟩) rfl 54 (.tmp 2) (.tmp 35) rfl w.heap.size #[.string sx, .int .i64 x] rfl rfl hG.out (Fi.info52 _ _) rfl (Fi.one52 _ _) ?_)
      | fail)
    refine bodyPost_ret (results_has3 rfl w.heap.size rfl (hG.out.row _) Try.underlying54 rfl (Fi.info52 _ _)) rfl ?_
    have hB4 := Bel.setRow hB.out (Nat.le_refl _) #[.string sx, .int .i64 x]
    exact ⟨R2, c - u - 4 * 1, by rw [hxe.out]; rfl, hAll2.out, hB4⟩
end Go.Proofs.Ytpfejjkoemnmiaa
/-
  The contracts of takeSyms and takeParts of package file.
-/
namespace Go.Proofs.Ytpfejjkoemnmiaa
open Go.RowKit
set_option linter.unusedVariables false
set_option linter.unusedSimpArgs false
set_option maxRecDepth 100000
/-- what takeSyms hands back -/
def Fi.SymsR (w w' : World) (e : Ending) (x : Except Int (List Ob.Y × List Int)) : Prop := match x with
  | .error z => e = .returned (.tuple #[.slice none 0 0, .slice none 0 0, .int .i64 z]) ∧ Below w.heap.size w w'
  | .ok (ys, r) => ∃ C f B d, e = .returned (.tuple #[.slice C ys.length f, .slice B r.length d, .int .i64 0]) ∧ Os 54 w.heap.size C ys.length f ys w' ∧ Below w.heap.size w w'
theorem Fi.step_rest {bs r : List Int} {y : Ob.Y} (h : Fi.step bs = .ok (y, r)) : r.length ≤ bs.length := by
  obtain ⟨_, _, _, rfl⟩ := Fi.step_ok h
  rw [List.length_drop, List.length_drop]
  omega
theorem Fi.step_nz {bs : List Int} {e : Int} (h : Fi.step bs = .error e) : e ≠ 0 := by
  unfold Fi.step at h
  split at h
  · split at h
    · cases h; decide
    · cases h
  · rename_i c
    cases h; exact c
theorem Os.rowLt {e : TypeId} {base n c B : Nat} {C : Option Addr} {ys : List Ob.Y} {w : World} (h : Os e base C n c ys w) (hlt : ∀ q, (Value.slice C n c).ownBlock = some q → q < B) (cs : Array Value) : Os e base C n c ys (w.setRow B cs) := by
  rcases h.cases with ⟨rfl, rfl, rfl, rfl⟩ | ⟨g, rfl, h⟩
  · exact Os.none _ _ _
  · obtain ⟨h1, h2, h3, h4, cur, h5, h6, h7⟩ := h.has
    have := hlt g rfl
    exact Os.mk' h1 h2 h3 h4 cur (h5.rowOther (by omega) cs) h6 h7
theorem Os.ltAll {e : TypeId} {base n c : Nat} {C : Option Addr} {ys : List Ob.Y} {w : World} (h : Os e base C n c ys w) : ∀ q, (Value.slice C n c).ownBlock = some q → q < w.heap.size := fun q hq => by
  rcases h.cases with ⟨rfl, rfl, rfl, rfl⟩ | ⟨g, rfl, h⟩
  · cases hq
  · cases hq; exact h.lt
set_option maxHeartbeats 2000000 in
set_option maxRecDepth 100000 in
theorem Fi.takeSyms_any {w : World} {A : Option Addr} {m c : Nat} {bs : List Int} (h : By w A m c bs) (hm : m ≤ 1000000) (N : Nat) (hN : N ≤ 1000000) :
    Calls Try.prog 60 #[.slice A m c, .int .i64 N] w fun e w' => Fi.SymsR w w' e (Fi.go N bs) := by
  have hl := h.len
  have H := Lib.hid h
  obtain ⟨X, hX⟩ : ∃ X, Fi.go N bs = X := ⟨_, rfl⟩
  rw [hX]
  have hX0 := Lib.hid (show X = Fi.pre [] (Fi.go (N - 0) bs) by rw [Fi.pre_nil, Nat.sub_zero, hX])
  clear hX h
  go_enter Try.func60, Try.ntmps60
  go_wp2
  go_loopw [4, 5, 6, 10] (fun l r e i wr => ∃ (j : Nat) (ys : List Ob.Y) (rs : List Int) (C : Option Addr) (f : Nat) (B : Option Addr) (d n : Nat), j ≤ N ∧ i = .int .i64 j ∧ ys.length = j ∧ rs.length = n ∧ n ≤ m ∧ l = .slice C j f ∧ r = .slice B n d ∧ e = .int .i64 0 ∧ Os 54 w.heap.size C j f ys wr ∧ By w B n d rs ∧ X = Fi.pre ys (Fi.go (N - j) rs) ∧ Below w.heap.size w wr) (fun _ _ _ i _ => N - (intOf i).toNat)
  case atStart => exact ⟨0, [], bs, none, 0, A, c, m, Nat.zero_le _, rfl, rfl, hl, Nat.le_refl _, rfl, rfl, rfl, Os.none _ _ _, H.out, hX0.out, Below.refl _ _⟩
  case round =>
    clear hX0 H hl
    obtain ⟨j, ys, rs, C, f, B, d, n, hj, rfl, hyl, hrl, hnm, rfl, rfl, rfl, hO, hR, hX, hB⟩ := hrel
    by_cases d1 : j < N
    · have d2 : (j : Int) < N := by omega
      rw [show N - j = (N - (j + 1)) + 1 by omega] at hX
      have hA1 := ((Kept.refl wr).alloc #[.string ⟨#[]⟩, .int .i64 0] 54).below
      have hG := Lib.hid (Has.new #[.string ⟨#[]⟩, .int .i64 0] 54 wr)
      have hS := hA1.size
      have hOl := Lib.hid hO.ltAll
      have hB0 := hB.size
      replace hO := Lib.hid (hO.below hA1)
      replace hB := Lib.hid (hB.trans (hA1.mono hB.size))
      have hRr := hR.below hB.out
      clear hA1
      cases hs : Fi.step rs with
      | error z =>
        have hz := Fi.step_nz hs
        rw [Fi.pre_err hs] at hX
        subst hX
        have z1 : (z == 0) = false := by simpa using hz
        have z2 : (z != 0) = true := by simpa using hz
        replace hRr := Lib.hid hRr
        clear hR hO
        go_wp2_with (fail)
        generalize wr.alloc (.cells #[.string ⟨#[]⟩, .int .i64 0] 54) = w1 at *
        refine (Fi.takeSym_any hRr.out (by omega)).mono ?_; intro e w2 hq
        rw [hs] at hq
        obtain ⟨rfl, hE⟩ := hq
        replace hB := Lib.hid (hB.out.trans (hE.mono (Nat.le_trans hB0 hS)))
        replace hG := Lib.hid (hG.out.below hE)
        clear hE hs
        go_wp2_with (first
          | (with_reducible refine store_has (o := ⟨none, _, _, _, _, _⟩) rfl 54 (.tmp 7) (.tmp 15) rfl wr.heap.size #[.string ⟨#[]⟩, .int .i64 0] rfl rfl hG.out (Fi.info52 _ _) rfl (Fi.one52 _ _) ?_)
          | fail)
        go_ret3
        exact ⟨rfl, Bel.setRow hB.out hB0 _⟩
      | ok p =>
        obtain ⟨y, r⟩ := p
        rw [Fi.pre_ok hs] at hX
        have hrl2 := Fi.step_rest hs
        replace hX := Lib.hid hX
        replace hR := Lib.hid hR
        replace hRr := Lib.hid hRr
        go_wp2_with (fail)
        generalize wr.alloc (.cells #[.string ⟨#[]⟩, .int .i64 0] 54) = w1 at *
        refine (Fi.takeSym_any hRr.out (by omega)).mono ?_; intro e w2 hq
        rw [hs] at hq
        obtain ⟨B', d', rfl, hAll, hE⟩ := hq
        have hR2 := hAll w hR.out
        have hB2 := hB.out.trans (hE.mono (Nat.le_trans hB0 hS))
        have hG2 := hG.out.below hE
        have hO2 := hO.out.below hE
        have hlt : w.heap.size ≤ w2.heap.size := hB2.size
        clear hs hAll hRr hG hO hB hR hE
        obtain ⟨s, a⟩ := y
        obtain ⟨n', hn'⟩ : ∃ n', r.length = n' := ⟨_, rfl⟩
        rw [hn'] at hR2 ⊢
        have hG3 := Lib.hid (hG2.row #[.string s, .int .i64 a])
        have hO3 := hO2.rowLt hOl.out #[.string s, .int .i64 a]
        have hB3 := Bel.setRow hB2 hB0 #[.string s, .int .i64 a]
        clear hB2 hO2 hlt
        replace hX := Lib.hid hX.out
        replace hO3 := Lib.hid hO3
        replace hB3 := Lib.hid hB3
        replace hR2 := Lib.hid hR2
        go_wp2_with (first
          | (with_reducible refine store_has (o := ⟨none, _, _, _, _, _⟩) rfl 54 (.tmp 7) (.tmp 15) rfl wr.heap.size #[.string s, .int .i64 a] rfl rfl hG2 (Fi.info52 _ _) rfl (Fi.one52 _ _) ?_
             generalize w2.setRow wr.heap.size #[.string s, .int .i64 a] = w3 at *
             clear hG2
             have hA3 := ((Kept.refl w3).alloc #[.string s, .int .i64 a] 54).below
             have hO4 := Lib.hid (hO3.out.below hA3)
             have hB4 := Lib.hid (hB3.out.trans (hA3.mono hB3.out.size))
             have hY := Lib.hid (Sy.one (Has.new #[.string s, .int .i64 a] 54 w3))
             have hs4 := Lib.hid hB4.out.size
             clear hA3)
          | (with_reducible refine load_has (o := ⟨some 22, _, _, _, _, _⟩) rfl 54 (.tmp 7) rfl wr.heap.size rfl hG3.out Try.underlying54 rfl (Fi.info52 _ _) ?_)
          | (with_reducible refine append_sy (o := ⟨some 24, _, _, _, _, _⟩) Try.underlying24 Ob.info39 rfl (by omega) rfl (.tmp 21) (.tmp 23) rfl w.heap.size C j f ys rfl hO4.out (some ⟨w3.heap.size, 0, none⟩) 1 1 [(s, a)] rfl hY.out (by omega) hs4.out (Or.inr (by omega)) ?_
             intro g' cap' w5 hO5 hG5
             have hB5 := Lib.hid (hB4.out.grown hG5 hs4.out (fun q hq => hO4.out.from q hq))
             replace hO5 := Lib.hid hO5
             clear hG5 hO4 hB4 hY)
          | fail)
        go_roundw
        case rel => exact ⟨j + 1, ys ++ [(s, a)], r, some ⟨g', 0, none⟩, cap', B', d', n', by omega, by go_num, by simp [hyl], hn', by omega, rfl, rfl, rfl, hO5.out, hR2.out, hX.out, hB5.out⟩
        case measure => simp [intOf]; omega
    · have d2 : ¬ (j : Int) < N := by omega
      obtain rfl : j = N := by omega
      rw [Nat.sub_self, Fi.pre_zero] at hX
      subst hX
      replace hO := Lib.hid hO
      replace hB := Lib.hid hB
      clear hR
      subst hyl hrl
      go_wp2
      go_ret3
      exact ⟨C, f, B, d, rfl, hO.out, hB.out⟩
end Go.Proofs.Ytpfejjkoemnmiaa
