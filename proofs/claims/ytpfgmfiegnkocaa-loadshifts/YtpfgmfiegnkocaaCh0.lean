/-
  Rows of numbers of any kind, whatever the numbers; rows that may be nil and are the call's own; what append does to them. No Go function is named here.
-/
import Derived.RegionTactic
import Derived.BigRegion
import Derived.StillTailTactics
import Derived.Test.YtpfgmfiegnkocaaM03
import Derived.Test.YtpfgmfiegnkocaaM01
namespace Go.Proofs.Ytpfgmfiegnkocaa
open Go.RowKit
set_option linter.unusedVariables false
set_option linter.unusedSimpArgs false
set_option maxRecDepth 100000
/-- a slice of numbers of the kind k -/
structure Rg (k : IntKind) (w : World) (A : Option Addr) (n c : Nat) (xs : List Int) : Prop where
  len : xs.length = n
  le : n ≤ c
  max : c ≤ maxLen
  nil : A = none → c = 0
  cel : ∀ ad, A = some ad → ∀ j x, xs[j]? = some x → w.cell? (ad.add j) = some (.int k x)
/-- ints -/
abbrev In (w : World) (A : Option Addr) (n c : Nat) (xs : List Int) : Prop := Rg .i64 w A n c xs
section
variable {k : IntKind} {w w' : World} {A : Option Addr} {n c : Nat} {xs : List Int}
theorem Rw.rg {L : Int} (h : Rw k L w A n c xs) : Rg k w A n c xs := ⟨h.len, h.le, h.max, h.nil, h.cel⟩
theorem Rg.rw {L : Int} (h : Rg k w A n c xs) (hr : ∀ x ∈ xs, 0 ≤ x ∧ x < L) : Rw k L w A n c xs := ⟨h.len, h.le, h.max, h.nil, hr, h.cel⟩
theorem Rg.empty (k : IntKind) (w : World) : Rg k w none 0 0 [] := ⟨rfl, Nat.le_refl _, by simp [maxLen], fun _ => rfl, by simp⟩
theorem Rg.lt {ad : Addr} (h : Rg k w (some ad) n c xs) (hn : 0 < n) : ad.block < w.heap.size := by
  have hl : 0 < xs.length := by have := h.len; omega
  have hx : xs[0]? = some xs[0] := List.getElem?_eq_getElem hl
  have := World.block_lt_of_cell? w _ (h.cel ad rfl 0 _ hx)
  unfold Addr.add at this
  split at this <;> exact this
theorem Rg.to (h : Rg k w A n c xs) (hk : ∀ ad, A = some ad → 0 < n → w'.heap[ad.block]? = w.heap[ad.block]?) : Rg k w' A n c xs :=
  ⟨h.len, h.le, h.max, h.nil, fun ad e j x hx => by
    have hj : j < xs.length := by
      rcases Nat.lt_or_ge j xs.length with h1 | h1
      · exact h1
      · rw [List.getElem?_eq_none h1] at hx; cases hx
    rw [World.cell?_of_block (w := w) (by rw [show (ad.add j).block = ad.block by cases j <;> rfl]; exact hk ad e (by have := h.len; omega))]
    exact h.cel ad e j x hx⟩
theorem Rg.below (h : Rg k w A n c xs) (hb : Below w.heap.size w w') : Rg k w' A n c xs :=
  h.to fun ad e hn => hb.block _ (by subst e; exact h.lt hn)
theorem Rg.drew (h : Rg k w A n c xs) : Rg k w.drew A n c xs := ⟨h.len, h.le, h.max, h.nil, h.cel⟩
/-- the beginning of a slice -/
theorem Rg.take (h : Rg k w A n c xs) (m : Nat) (hm : m ≤ n) : Rg k w A m c (xs.take m) :=
  ⟨by simp [h.len]; omega, by have := h.le; omega, h.max, h.nil, fun ad e j x hx => h.cel ad e j x (by
    rw [List.getElem?_take] at hx
    split at hx
    · exact hx
    · cases hx)⟩
theorem Rg.addr {ad : Addr} (h : Rg k w (some ad) n c xs) (hn : 0 < n) : ∃ b off, ad = ⟨b, off, none⟩ := by
  have hl : 0 < xs.length := by have := h.len; omega
  have hx := h.cel ad rfl 0 _ (List.getElem?_eq_getElem hl)
  obtain ⟨b, off, spot⟩ := ad
  have hspot : spot = none := by simpa [Addr.add] using World.cell?_spot hx
  subst hspot
  exact ⟨b, off, rfl⟩
theorem Rg.place (h : Rg k w A n c xs) (hn : 0 < n) : ∃ b off, A = some ⟨b, off, none⟩ := by
  cases A with
  | none => have := h.nil rfl; have := h.le; omega
  | some ad => obtain ⟨b, off, rfl⟩ := h.addr hn; exact ⟨b, off, rfl⟩
theorem Rg.cellAt {b off : Nat} (h : Rg k w (some ⟨b, off, none⟩) n c xs) (j : Nat) (x : Int) (hx : xs[j]? = some x) : w.cell? ⟨b, off + j, none⟩ = some (.int k x) := by
  have := h.cel _ rfl j x hx
  rwa [show (⟨b, off, none⟩ : Addr).add j = ⟨b, off + j, none⟩ by cases j <;> simp [Addr.add]] at this
theorem Rg.cellIn {b off : Nat} (h : Rg k w (some ⟨b, off, none⟩) n c xs) (j : Nat) (hj : j < xs.length) : w.cell? ⟨b, off + j, none⟩ = some (.int k xs[j]) := h.cellAt j _ (List.getElem?_eq_getElem hj)
end
theorem Rg.at {k : IntKind} {w : World} {b off n c : Nat} {xs : List Int} (h : Rg k w (some ⟨b, off, none⟩) n c xs) (j : Nat) (hj : j < n) : w.cell? ⟨b, off + j, none⟩ = some (.int k (xs.getD j 0)) :=
  h.cellAt j _ (by rw [List.getD_eq_getElem?_getD, List.getElem?_eq_getElem (by have := h.len; omega)]; rfl)
theorem Rw.at {k : IntKind} {L : Int} {w : World} {b off n c : Nat} {xs : List Int} (h : Rw k L w (some ⟨b, off, none⟩) n c xs) (j : Nat) (hj : j < n) : w.cell? ⟨b, off + j, none⟩ = some (.int k (xs.getD j 0)) := h.rg.at j hj
theorem Rw.atR {k : IntKind} {L : Int} {w : World} {A : Option Addr} {n c : Nat} {xs : List Int} (h : Rw k L w A n c xs) (hL : 0 < L) (j : Nat) : 0 ≤ xs.getD j 0 ∧ xs.getD j 0 < L := by
  rw [List.getD_eq_getElem?_getD]
  cases hq : xs[j]? with
  | none => simp [hL]
  | some x => exact h.rng x (List.mem_of_getElem? hq)
theorem Rg.two {k : IntKind} {w : World} {g : Nat} {x y : Int} {t : TypeId} (h : Has g #[.int k x, .int k y] t w) : Rg k w (some ⟨g, 0, none⟩) 2 2 [x, y] :=
  ⟨rfl, Nat.le_refl _, by simp [maxLen], by simp, fun ad e j z hz => by
    cases e
    match j, hz with
    | 0, hz => simp at hz; subst hz; exact h.cell 0 _ rfl
    | 1, hz => simp at hz; subst hz; exact h.cell 1 _ rfl⟩
theorem Rg.three {k : IntKind} {w : World} {g : Nat} {x y u : Int} {t : TypeId} (h : Has g #[.int k x, .int k y, .int k u] t w) : Rg k w (some ⟨g, 0, none⟩) 3 3 [x, y, u] :=
  ⟨rfl, Nat.le_refl _, by simp [maxLen], by simp, fun ad e j z hz => by
    cases e
    match j, hz with
    | 0, hz => simp at hz; subst hz; exact h.cell 0 _ rfl
    | 1, hz => simp at hz; subst hz; exact h.cell 1 _ rfl
    | 2, hz => simp at hz; subst hz; exact h.cell 2 _ rfl⟩
theorem Rg.one {k : IntKind} {w : World} {g : Nat} {x : Int} {t : TypeId} (h : Has g #[.int k x] t w) : Rg k w (some ⟨g, 0, none⟩) 1 1 [x] :=
  ⟨rfl, Nat.le_refl _, by simp [maxLen], by simp, fun ad e j y hy => by
    cases e
    match j, hy with
    | 0, hy => simp at hy; subst hy; exact h.cell 0 _ rfl⟩
/-- a row of the call's own, or nil -/
def On (e : TypeId) (k : IntKind) (base : Nat) (A : Option Addr) (n c : Nat) (xs : List Int) (w : World) : Prop := w.ownsRow base e 1 (.slice A n c) n (xs.map (Value.int k))
section
variable {e : TypeId} {k : IntKind} {base g n c : Nat} {A : Option Addr} {xs : List Int} {w w' : World}
theorem Ow.on (h : Ow e k base g n c xs w) : On e k base (some ⟨g, 0, none⟩) n c xs w := h
theorem On.none (e : TypeId) (k : IntKind) (base : Nat) (w : World) : On e k base none 0 0 [] w := ⟨rfl, Or.inl ⟨rfl, rfl⟩⟩
theorem On.cases (h : On e k base A n c xs w) : (A = Option.none ∧ n = 0 ∧ c = 0 ∧ xs = []) ∨ ∃ g, A = some ⟨g, 0, Option.none⟩ ∧ Ow e k base g n c xs w := by
  obtain ⟨h1, h2⟩ := h
  rcases h2 with ⟨h2, h3⟩ | ⟨g', cap', cur, hv, h4⟩
  · cases h2
    refine Or.inl ⟨rfl, rfl, rfl, ?_⟩
    simpa using h1
  · cases hv
    exact Or.inr ⟨g', rfl, h1, Or.inr ⟨g', _, cur, rfl, h4⟩⟩
theorem On.rg (h : On e k base A n c xs w) : Rg k w A n c xs := by
  rcases h.cases with ⟨rfl, rfl, rfl, rfl⟩ | ⟨g, rfl, h⟩
  · exact Rg.empty k w
  · have h : Ow e k base g n c xs w := h
    obtain ⟨h1, h2, h3, h4, cur, hh, hs, ht⟩ := h.has
    refine ⟨h4, h2, h3, by simp, fun ad e j x hx => ?_⟩
    cases e
    rw [show (⟨g, 0, Option.none⟩ : Addr).add j = ⟨g, j, Option.none⟩ by cases j <;> simp [Addr.add]]
    have hj : j < n := by
      rcases Nat.lt_or_ge j n with h1 | h1
      · exact h1
      · rw [List.getElem?_eq_none (by omega)] at hx; cases hx
    refine hh.cell j _ ?_
    have : (cur.toList.take n)[j]? = some (Value.int k x) := by rw [ht, List.getElem?_map, hx]; rfl
    rw [List.getElem?_take, if_pos hj] at this
    simpa using this
theorem Ow.rg (h : Ow e k base g n c xs w) : Rg k w (some ⟨g, 0, none⟩) n c xs := h.on.rg
theorem Ow.at (h : Ow e k base g n c xs w) (j : Nat) (hj : j < n) : w.cell? ⟨g, j, none⟩ = some (.int k (xs.getD j 0)) := by
  have := h.rg.at j hj
  rwa [Nat.zero_add] at this
theorem On.below (h : On e k base A n c xs w) (hb : Below w.heap.size w w') : On e k base A n c xs w' := by
  rcases h.cases with ⟨rfl, rfl, rfl, rfl⟩ | ⟨g, rfl, h⟩
  · exact On.none _ _ _ _
  · have h : Ow e k base g n c xs w := h
    exact (h.below hb).on
theorem On.from (h : On e k base A n c xs w) (q : Nat) (hq : (Value.slice A n c).ownBlock = some q) : base ≤ q := by
  rcases h.cases with ⟨rfl, rfl, rfl, rfl⟩ | ⟨g, rfl, h⟩
  · cases hq
  · have h : Ow e k base g n c xs w := h
    cases hq; exact h.has.1
theorem Ow.lower {base' : Nat} (h : Ow e k base g n c xs w) (hb : base' ≤ base) : Ow e k base' g n c xs w := by
  obtain ⟨h1, h2, h3, h4, cur, h5, h6, h7⟩ := h.has
  exact Ow.mk' (by omega) h2 h3 h4 cur h5 h6 h7
theorem On.lower {base' : Nat} (h : On e k base A n c xs w) (hb : base' ≤ base) : On e k base' A n c xs w := by
  rcases h.cases with ⟨rfl, rfl, rfl, rfl⟩ | ⟨g, rfl, h⟩
  · exact On.none _ _ _ _
  · have h : Ow e k base g n c xs w := h
    exact (h.lower hb).on
theorem Ow.drew (h : Ow e k base g n c xs w) : Ow e k base g n c xs w.drew := h
/-- a number is stored: Below -/
theorem Ow.keeps (h : Ow e k base g n c xs w) (j : Nat) (x : Value) : Below base w (w.setCell ⟨g, j, none⟩ x) := (Below.refl _ _).setCell h.has.1 x
end
section
variable {P : Program} {ops : Array Oper} {rest : List Oper} {o : Oper} {a : Act} {Q : Exit → Act → World → Prop} {w : World}
theorem append_rg {e t : TypeId} {k : IntKind} {by0 : Nat} (hu : P.underlying t = some (.slice e)) (hinf : (P.info? e).map (fun i => (i.zero, i.size, i.bytes)) = some (some (.int k 0), 1, by0)) (hby : by0 ≤ 8)
    (hgd : o.guard = none) (s x : Operand)
    (ho : o.op = .call { callee := .builtin .append, args := #[s, x], argTypes := #[t, t] }) (base g n cap : Nat) (xs : List Int) (hs : a.eval s = .slice (some ⟨g, 0, none⟩) n cap) (hown : Ow e k base g n cap xs w)
    (A : Option Addr) (m c : Nat) (ys : List Int) (hx : a.eval x = .slice A m c) (hY : Rg k w A m c ys) (hb : n + m ≤ 1000000000000) (hbase : base ≤ w.heap.size)
    (h : ∀ g' cap' w', Ow e k base g' (n + m) cap' (xs ++ ys) w' → w.grownBy w' (some g) → wpList P ops Q rest (a.put o.dst (.slice (some ⟨g', 0, none⟩) (n + m) cap')) w') : wpList P ops Q (o :: rest) a w := by
  obtain ⟨i0, hi, hz0, hz1, hz2⟩ := info_parts hinf
  cases A with
  | none =>
    have hc := hY.nil rfl
    have hm : m = 0 := by have := hY.le; omega
    subst hc hm
    have hy : ys = [] := List.eq_nil_of_length_eq_zero hY.len
    subst hy
    refine wpList_append_own_none hgd s x t ho base e i0 1 hu hi _ n _ hs hown hx ?_
    have := h g cap w (by rw [Nat.add_zero, List.append_nil]; exact hown) ⟨rfl, rfl, rfl, Nat.le_refl _, fun _ _ _ => rfl⟩
    exact this
  | some ad =>
    refine wpList_append_own w hgd s x t ho base e i0 (.int k 0) 1 by0 hu hi hz0 hz1 hz2 rfl (by decide) _ n (xs.map (Value.int k)) hs hown ad m c (ys.map (Value.int k)) hx (by rw [List.length_map, hY.len, Nat.mul_one]) ?_ ?_ (by unfold maxLen; omega) ?_ hbase ?_
    · intro j u hj
      rw [List.getElem?_map, Option.map_eq_some_iff] at hj
      obtain ⟨y, hy, rfl⟩ := hj
      exact hY.cel ad rfl j y hy
    · intro u hu
      obtain ⟨y, _, rfl⟩ := List.mem_map.1 hu
      rfl
    · have := Nat.mul_le_mul hb hby
      omega
    · intro v' w' h1 h2 h3
      have hv : ∃ g' cap', v' = .slice (some ⟨g', 0, none⟩) (n + m) cap' := by
        rcases h1.2 with ⟨h4, _⟩ | ⟨g', cap', cur, h4, _⟩
        · have := (h3.1 h4).1
          cases this
        · exact ⟨g', cap', h4⟩
      obtain ⟨g', cap', rfl⟩ := hv
      rw [← List.map_append] at h1
      exact h g' cap' w' h1 h2
/-- numbers, one at least, are appended to a row that may be nil -/
theorem append_on {e t : TypeId} {k : IntKind} {by0 : Nat} (hu : P.underlying t = some (.slice e)) (hinf : (P.info? e).map (fun i => (i.zero, i.size, i.bytes)) = some (some (.int k 0), 1, by0)) (hby : by0 ≤ 8)
    (hgd : o.guard = none) (s x : Operand)
    (ho : o.op = .call { callee := .builtin .append, args := #[s, x], argTypes := #[t, t] }) (base : Nat) (A : Option Addr) (n cap : Nat) (xs : List Int) (hs : a.eval s = .slice A n cap) (hown : On e k base A n cap xs w)
    (ad : Addr) (m c : Nat) (ys : List Int) (hx : a.eval x = .slice (some ad) m c) (hY : Rg k w (some ad) m c ys) (hm : 0 < m) (hb : n + m ≤ 1000000000000) (hbase : base ≤ w.heap.size)
    (h : ∀ g' cap' w', Ow e k base g' (n + m) cap' (xs ++ ys) w' → w.grownBy w' (Value.slice A n cap).ownBlock → wpList P ops Q rest (a.put o.dst (.slice (some ⟨g', 0, none⟩) (n + m) cap')) w') : wpList P ops Q (o :: rest) a w := by
  obtain ⟨i0, hi, hz0, hz1, hz2⟩ := info_parts hinf
  refine wpList_append_own w hgd s x t ho base e i0 (.int k 0) 1 by0 hu hi hz0 hz1 hz2 rfl (by decide) _ n (xs.map (Value.int k)) hs hown ad m c (ys.map (Value.int k)) hx (by rw [List.length_map, hY.len, Nat.mul_one]) ?_ ?_ (by unfold maxLen; omega) ?_ hbase ?_
  · intro j u hj
    rw [List.getElem?_map, Option.map_eq_some_iff] at hj
    obtain ⟨y, hy, rfl⟩ := hj
    exact hY.cel ad rfl j y hy
  · intro u hu
    obtain ⟨y, _, rfl⟩ := List.mem_map.1 hu
    rfl
  · have := Nat.mul_le_mul hb hby
    omega
  · intro v' w' h1 h2 h3
    have hv : ∃ g' cap', v' = .slice (some ⟨g', 0, none⟩) (n + m) cap' := by
      rcases h1.2 with ⟨h4, h5⟩ | ⟨g', cap', cur, h4, _⟩
      · omega
      · exact ⟨g', cap', h4⟩
    obtain ⟨g', cap', rfl⟩ := hv
    rw [← List.map_append] at h1
    exact h g' cap' w' h1 h2
end
end Go.Proofs.Ytpfgmfiegnkocaa
