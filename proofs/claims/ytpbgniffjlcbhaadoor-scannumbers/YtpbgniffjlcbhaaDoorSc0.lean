/-
  Rows of tokens (four cells each): rows that came in, rows of the call's own; what append does to them. No Go function is named here.
-/
import Derived.Test.YtpbgniffjlcbhaaDoorScP
import Derived.Test.YtpbgniffjlcbhaaDoorLe0
namespace Go.Proofs.YtpbgniffjlcbhaaDoor
open Go.RowKit
set_option linter.unusedVariables false
set_option linter.unusedSimpArgs false
set_option maxRecDepth 100000
/-- a token's cells -/
def Sc.cs (y : Sc.Tk) : List Value := [.int .i64 y.k, .int .i64 y.p, .string (strOfNums y.t), .int .u32 y.n]
def Sc.cells (ys : List Sc.Tk) : List Value := ys.flatMap Sc.cs
def Sc.none : Sc.Tk := ⟨0, 0, [], 0⟩
def Sc.tk (ys : List Sc.Tk) (k : Nat) : Sc.Tk := ys.getD k Sc.none
theorem Sc.tk_get {ys : List Sc.Tk} {k : Nat} (h : k < ys.length) : ys[k]? = some (Sc.tk ys k) := by
  unfold Sc.tk
  rw [List.getD_eq_getElem?_getD, List.getElem?_eq_getElem h]; rfl
theorem Sc.cells_cons (z : Sc.Tk) (ys : List Sc.Tk) : Sc.cells (z :: ys) = .int .i64 z.k :: .int .i64 z.p :: .string (strOfNums z.t) :: .int .u32 z.n :: Sc.cells ys := rfl
theorem Sc.cells_len (ys : List Sc.Tk) : (Sc.cells ys).length = ys.length * 4 := by
  induction ys with
  | nil => rfl
  | cons y ys ih =>
    rw [Sc.cells_cons]
    simp only [List.length_cons, ih]; omega
theorem Sc.cells_append (xs ys : List Sc.Tk) : Sc.cells (xs ++ ys) = Sc.cells xs ++ Sc.cells ys := List.flatMap_append
theorem Sc.cells_at : ∀ (ys : List Sc.Tk) (k : Nat) (y : Sc.Tk), ys[k]? = some y → ∀ j v, (Sc.cs y)[j]? = some v → (Sc.cells ys)[k * 4 + j]? = some v
  | [], k, y, h, j, v, hv => by simp at h
  | z :: ys, 0, y, h, j, v, hv => by
    simp at h; subst h
    have hj : j < (Sc.cs z).length := by
      rcases Nat.lt_or_ge j (Sc.cs z).length with h1 | h1
      · exact h1
      · rw [List.getElem?_eq_none h1] at hv; cases hv
    rw [show Sc.cells (z :: ys) = Sc.cs z ++ Sc.cells ys from rfl, Nat.zero_mul, Nat.zero_add, List.getElem?_append_left hj]
    exact hv
  | z :: ys, k + 1, y, h, j, v, hv => by
    have := Sc.cells_at ys k y (by simpa using h) j v hv
    rw [show Sc.cells (z :: ys) = Sc.cs z ++ Sc.cells ys from rfl, List.getElem?_append_right (by show 4 ≤ _; omega), show (k + 1) * 4 + j - (Sc.cs z).length = k * 4 + j by show (k + 1) * 4 + j - 4 = _; omega]
    exact this
theorem Sc.cells_take : ∀ (ys : List Sc.Tk) (k : Nat), Sc.cells (ys.take k) = (Sc.cells ys).take (k * 4)
  | [], k => by simp [Sc.cells]
  | z :: ys, 0 => by simp [Sc.cells]
  | z :: ys, k + 1 => by
    rw [List.take_succ_cons, Sc.cells_cons, Sc.cells_take ys k, Sc.cells_cons, show (k + 1) * 4 = k * 4 + 1 + 1 + 1 + 1 by omega, List.take_succ_cons, List.take_succ_cons, List.take_succ_cons, List.take_succ_cons]
theorem Sc.cells_one {u : Value} : ∀ {ys : List Sc.Tk}, u ∈ Sc.cells ys → u.oneCell' = true := by
  intro ys hu
  obtain ⟨y, _, hy⟩ := List.mem_flatMap.1 hu
  simp only [Sc.cs, List.mem_cons, List.not_mem_nil, or_false] at hy
  rcases hy with rfl | rfl | rfl | rfl <;> rfl
/-- a place is written -/
theorem Sc.cells_set : ∀ (ys : List Sc.Tk) (k : Nat) (p : Int), k < ys.length → (Sc.cells ys).set (k * 4 + 1) (.int .i64 p) = Sc.cells (ys.set k { Sc.tk ys k with p := p })
  | [], k, s, h => by simp at h
  | z :: ys, 0, s, h => rfl
  | z :: ys, k + 1, s, h => by
    have := Sc.cells_set ys k s (by simpa using h)
    rw [Sc.cells_cons, show (k + 1) * 4 + 1 = (k * 4 + 1) + 1 + 1 + 1 + 1 by omega, List.set_cons_succ, List.set_cons_succ, List.set_cons_succ, List.set_cons_succ, this]
    rfl
/-- a slice of tokens -/
structure Tr (w : World) (A : Option Addr) (n c : Nat) (ys : List Sc.Tk) : Prop where
  len : ys.length = n
  le : n ≤ c
  max : c ≤ maxLen
  nil : A = none → c = 0
  cel : ∀ ad, A = some ad → ∀ j v, (Sc.cells ys)[j]? = some v → w.cell? (ad.add j) = some v
section
variable {w w' : World} {A : Option Addr} {n c : Nat} {ys : List Sc.Tk}
theorem Tr.empty (w : World) : Tr w none 0 0 [] := ⟨rfl, Nat.le_refl _, by simp [maxLen], fun _ => rfl, by simp⟩
theorem Tr.lt {ad : Addr} (h : Tr w (some ad) n c ys) (hn : 0 < n) : ad.block < w.heap.size := by
  have hl : 0 < (Sc.cells ys).length := by have := h.len; rw [Sc.cells_len]; omega
  have := World.block_lt_of_cell? w _ (h.cel ad rfl 0 _ (List.getElem?_eq_getElem hl))
  unfold Addr.add at this
  split at this <;> exact this
theorem Tr.to (h : Tr w A n c ys) (hk : ∀ ad, A = some ad → 0 < n → w'.heap[ad.block]? = w.heap[ad.block]?) : Tr w' A n c ys :=
  ⟨h.len, h.le, h.max, h.nil, fun ad e j v hv => by
    have hj : j < (Sc.cells ys).length := by
      rcases Nat.lt_or_ge j (Sc.cells ys).length with h1 | h1
      · exact h1
      · rw [List.getElem?_eq_none h1] at hv; cases hv
    rw [World.cell?_of_block (w := w) (by rw [show (ad.add j).block = ad.block by cases j <;> rfl]; exact hk ad e (by have := h.len; rw [Sc.cells_len] at hj; omega))]
    exact h.cel ad e j v hv⟩
theorem Tr.below (h : Tr w A n c ys) (hb : Below w.heap.size w w') : Tr w' A n c ys := h.to fun ad e hn => hb.block _ (by subst e; exact h.lt hn)
theorem Tr.drew (h : Tr w A n c ys) : Tr w.drew A n c ys := ⟨h.len, h.le, h.max, h.nil, h.cel⟩
theorem Tr.addr {ad : Addr} (h : Tr w (some ad) n c ys) (hn : 0 < n) : ∃ b off, ad = ⟨b, off, Option.none⟩ := by
  have hl : 0 < (Sc.cells ys).length := by have := h.len; rw [Sc.cells_len]; omega
  have hx := h.cel ad rfl 0 _ (List.getElem?_eq_getElem hl)
  obtain ⟨b, off, spot⟩ := ad
  have hspot : spot = Option.none := by simpa [Addr.add] using World.cell?_spot hx
  subst hspot
  exact ⟨b, off, rfl⟩
theorem Tr.place (h : Tr w A n c ys) (hn : 0 < n) : ∃ b off, A = some ⟨b, off, Option.none⟩ := by
  cases A with
  | none => have := h.nil rfl; have := h.le; omega
  | some ad => obtain ⟨b, off, rfl⟩ := h.addr hn; exact ⟨b, off, rfl⟩
theorem Tr.cellAt {b off : Nat} (h : Tr w (some ⟨b, off, Option.none⟩) n c ys) (j : Nat) (v : Value) (hv : (Sc.cells ys)[j]? = some v) : w.cell? ⟨b, off + j, Option.none⟩ = some v := by
  have := h.cel _ rfl j v hv
  rwa [show (⟨b, off, Option.none⟩ : Addr).add j = ⟨b, off + j, Option.none⟩ by cases j <;> simp [Addr.add]] at this
/-- the four cells of a token -/
theorem Tr.four {b off : Nat} (h : Tr w (some ⟨b, off, Option.none⟩) n c ys) (k : Nat) (hk : k < n) :
    w.cell? ⟨b, off + k * 4, Option.none⟩ = some (.int .i64 (Sc.tk ys k).k) ∧ w.cell? ⟨b, off + k * 4 + 1, Option.none⟩ = some (.int .i64 (Sc.tk ys k).p) ∧ w.cell? ⟨b, off + k * 4 + 2, Option.none⟩ = some (.string (strOfNums (Sc.tk ys k).t)) ∧ w.cell? ⟨b, off + k * 4 + 3, Option.none⟩ = some (.int .u32 (Sc.tk ys k).n) := by
  have hg := Sc.tk_get (ys := ys) (k := k) (by rw [h.len]; exact hk)
  have H := fun j v hv => h.cellAt _ _ (Sc.cells_at ys k _ hg j v hv)
  have h0 := H 0 _ rfl
  have h1 := H 1 _ rfl
  have h2 := H 2 _ rfl
  have h3 := H 3 _ rfl
  rw [← Nat.add_assoc] at h1 h2 h3
  exact ⟨h0, h1, h2, h3⟩
theorem Tr.range {b off : Nat} (h : Tr w (some ⟨b, off, Option.none⟩) n c ys) (k : Nat) (hk : k < n) : w.rangeAt b (off + k * 4) (Sc.cs (Sc.tk ys k)) := fun j v hv => by
  have hg := Sc.tk_get (ys := ys) (k := k) (by rw [h.len]; exact hk)
  have := h.cellAt _ _ (Sc.cells_at ys k _ hg j v hv)
  rwa [← Nat.add_assoc] at this
/-- the beginning of a slice -/
theorem Tr.take (h : Tr w A n c ys) (m : Nat) (hm : m ≤ n) : Tr w A m c (ys.take m) :=
  ⟨by simp [h.len]; omega, by have := h.le; omega, h.max, h.nil, fun ad e j v hv => h.cel ad e j v (by
    rw [Sc.cells_take, List.getElem?_take] at hv
    split at hv
    · exact hv
    · cases hv)⟩
end
theorem Tr.of {w : World} {g : Nat} {cs : Array Value} {t : TypeId} (ys : List Sc.Tk) (h : Has g cs t w) (hc : cs.toList = Sc.cells ys) (hm : ys.length ≤ maxLen) : Tr w (some ⟨g, 0, none⟩) ys.length ys.length ys :=
  ⟨rfl, Nat.le_refl _, hm, by simp, fun ad e j v hv => by
    cases e
    rw [show (⟨g, 0, none⟩ : Addr).add j = ⟨g, j, none⟩ by cases j <;> simp [Addr.add]]
    exact h.cell j _ (by rw [← hc] at hv; simpa using hv)⟩
/-- one token, in a block -/
theorem Tr.one {w : World} {g : Nat} {y : Sc.Tk} {t : TypeId} (h : Has g (Sc.cs y).toArray t w) : Tr w (some ⟨g, 0, none⟩) 1 1 [y] := Tr.of [y] h (by show Sc.cs y = Sc.cs y ++ []; rw [List.append_nil]) (by simp [maxLen])
/-- a row of the call's own, or nil -/
def Oz (e : TypeId) (base : Nat) (A : Option Addr) (n c : Nat) (ys : List Sc.Tk) (w : World) : Prop := w.ownsRow base e 4 (.slice A n c) n (Sc.cells ys)
section
variable {e : TypeId} {base g n c : Nat} {A : Option Addr} {ys : List Sc.Tk} {w w' : World}
theorem Oz.none (e : TypeId) (base : Nat) (w : World) : Oz e base none 0 0 [] w := ⟨rfl, Or.inl ⟨rfl, rfl⟩⟩
theorem Oz.has (h : Oz e base (some ⟨g, 0, Option.none⟩) n c ys w) : base ≤ g ∧ n ≤ c ∧ c ≤ maxLen ∧ ys.length = n ∧ ∃ cur : Array Value, Has g cur e w ∧ cur.size = c * 4 ∧ cur.toList.take (n * 4) = Sc.cells ys := by
  obtain ⟨h1, h2⟩ := h
  rcases h2 with ⟨h2, _⟩ | ⟨g', cap', cur, hv, hb, hh, hle, hm, hs, ht⟩
  · cases h2
  · cases hv
    rw [Sc.cells_len] at h1
    exact ⟨hb, hle, hm, by omega, cur, hh, hs, ht⟩
theorem Oz.mk' (hb : base ≤ g) (h1 : n ≤ c) (h2 : c ≤ maxLen) (h3 : ys.length = n) (cur : Array Value) (hh : Has g cur e w) (hs : cur.size = c * 4) (ht : cur.toList.take (n * 4) = Sc.cells ys) : Oz e base (some ⟨g, 0, Option.none⟩) n c ys w :=
  ⟨by rw [Sc.cells_len, h3], Or.inr ⟨g, c, cur, rfl, hb, hh, h1, h2, hs, ht⟩⟩
theorem Oz.cases (h : Oz e base A n c ys w) : (A = Option.none ∧ n = 0 ∧ c = 0 ∧ ys = []) ∨ ∃ g, A = some ⟨g, 0, Option.none⟩ ∧ Oz e base (some ⟨g, 0, Option.none⟩) n c ys w := by
  obtain ⟨h1, h2⟩ := h
  rcases h2 with ⟨h2, h3⟩ | ⟨g', cap', cur, hv, h4⟩
  · cases h2
    refine Or.inl ⟨rfl, rfl, rfl, ?_⟩
    rw [Sc.cells_len] at h1
    exact List.eq_nil_of_length_eq_zero (by omega)
  · cases hv
    exact Or.inr ⟨g', rfl, h1, Or.inr ⟨g', _, cur, rfl, h4⟩⟩
theorem Oz.len (h : Oz e base A n c ys w) : ys.length = n := by
  have := h.1
  rw [Sc.cells_len] at this
  omega
theorem Oz.lt (h : Oz e base (some ⟨g, 0, Option.none⟩) n c ys w) : g < w.heap.size := by
  obtain ⟨_, _, _, _, cur, hh, _⟩ := h.has; exact hh.lt
theorem Oz.tr (h : Oz e base A n c ys w) : Tr w A n c ys := by
  rcases h.cases with ⟨rfl, rfl, rfl, rfl⟩ | ⟨g, rfl, h⟩
  · exact Tr.empty w
  · obtain ⟨h1, h2, h3, h4, cur, hh, hs, ht⟩ := h.has
    refine ⟨h4, h2, h3, by simp, fun ad e j v hv => ?_⟩
    cases e
    rw [show (⟨g, 0, Option.none⟩ : Addr).add j = ⟨g, j, Option.none⟩ by cases j <;> simp [Addr.add]]
    refine hh.cell j _ ?_
    rw [← ht, List.getElem?_take] at hv
    split at hv
    · simpa using hv
    · cases hv
theorem Oz.below (h : Oz e base A n c ys w) (hb : Below w.heap.size w w') : Oz e base A n c ys w' := by
  rcases h.cases with ⟨rfl, rfl, rfl, rfl⟩ | ⟨g, rfl, h⟩
  · exact Oz.none _ _ _
  · obtain ⟨h1, h2, h3, h4, cur, h5, h6, h7⟩ := h.has
    exact Oz.mk' h1 h2 h3 h4 cur ((hb.block g h.lt).trans h5) h6 h7
theorem Oz.from (h : Oz e base A n c ys w) (q : Nat) (hq : (Value.slice A n c).ownBlock = some q) : base ≤ q := by
  rcases h.cases with ⟨rfl, rfl, rfl, rfl⟩ | ⟨g, rfl, h⟩
  · cases hq
  · cases hq; exact h.has.1
theorem Oz.lower {base' : Nat} (h : Oz e base A n c ys w) (hb : base' ≤ base) : Oz e base' A n c ys w := by
  rcases h.cases with ⟨rfl, rfl, rfl, rfl⟩ | ⟨g, rfl, h⟩
  · exact Oz.none _ _ _
  · obtain ⟨h1, h2, h3, h4, cur, h5, h6, h7⟩ := h.has
    exact Oz.mk' (by omega) h2 h3 h4 cur h5 h6 h7
theorem Oz.drew (h : Oz e base A n c ys w) : Oz e base A n c ys w.drew := h
/-- nothing, not nil -/
theorem Oz.new (e : TypeId) (w : World) (base : Nat) (hb : base ≤ w.heap.size) : Oz e base (some ⟨w.heap.size, 0, Option.none⟩) 0 0 [] (w.alloc (.cells #[] e)) :=
  Oz.mk' hb (Nat.le_refl _) (by simp [maxLen]) rfl #[] (heap_alloc_last _ _) rfl rfl
theorem Oz.free (h : Oz e base (some ⟨g, 0, Option.none⟩) n c ys w) (j : Nat) : w.frozen? ⟨g, j, Option.none⟩ = false := by
  obtain ⟨h1, h2, h3, h4, cur, h5, h6, h7⟩ := h.has
  exact h5.free j
theorem Oz.set (h : Oz e base (some ⟨g, 0, Option.none⟩) n c ys w) (k : Nat) (hk : k < n) (p : Int) : Oz e base (some ⟨g, 0, Option.none⟩) n c (ys.set k { Sc.tk ys k with p := p }) (w.setCell ⟨g, k * 4 + 1, Option.none⟩ (.int .i64 p)) := by
  obtain ⟨h1, h2, h3, h4, cur, h5, h6, h7⟩ := h.has
  refine Oz.mk' h1 h2 h3 (by simpa using h4) _ (h5.set (k * 4 + 1) (.int .i64 p)) (by simpa using h6) ?_
  rw [Array.toList_setIfInBounds, List.take_set, h7, Sc.cells_set ys k p (by omega)]
end
section
variable {P : Program} {ops : Array Oper} {rest : List Oper} {o : Oper} {a : Act} {Q : Exit → Act → World → Prop} {w : World}
/-- tokens are appended to a row that may be nil: one at least, or the row is not nil -/
theorem append_tr {e t : TypeId} {z : Value} {by0 : Nat} (hu : P.underlying t = some (.slice e)) (hinf : (P.info? e).map (fun i => (i.zero, i.size, i.bytes)) = some (some z, 4, by0)) (hz2 : z.cells.size = 4) (hby : by0 ≤ 100)
    (hgd : o.guard = none) (s x : Operand)
    (ho : o.op = .call { callee := .builtin .append, args := #[s, x], argTypes := #[t, t] }) (base : Nat) (A : Option Addr) (n cap : Nat) (xs : List Sc.Tk) (hs : a.eval s = .slice A n cap) (hown : Oz e base A n cap xs w)
    (B : Option Addr) (m c : Nat) (ys : List Sc.Tk) (hx : a.eval x = .slice B m c) (hY : Tr w B m c ys) (hb : n + m ≤ 1000000000000) (hbase : base ≤ w.heap.size) (hne : A ≠ none ∨ 0 < m)
    (h : ∀ g' cap' w', Oz e base (some ⟨g', 0, none⟩) (n + m) cap' (xs ++ ys) w' → w.grownBy w' (Value.slice A n cap).ownBlock → wpList P ops Q rest (a.put o.dst (.slice (some ⟨g', 0, none⟩) (n + m) cap')) w') : wpList P ops Q (o :: rest) a w := by
  obtain ⟨i0, hi, hz0, hz1, hz2'⟩ := info_parts hinf
  cases B with
  | none =>
    have hc := hY.nil rfl
    have hm : m = 0 := by have := hY.le; omega
    subst hc hm
    have hy : ys = [] := List.eq_nil_of_length_eq_zero hY.len
    subst hy
    rcases hown.cases with ⟨rfl, _⟩ | ⟨g, rfl, _⟩
    · rcases hne with hne | hne
      · exact absurd rfl hne
      · omega
    · refine wpList_append_own_none hgd s x t ho base e i0 4 hu hi _ n _ hs hown hx ?_
      exact h g cap w (by rw [Nat.add_zero, List.append_nil]; exact hown) ⟨rfl, rfl, rfl, Nat.le_refl _, fun _ _ _ => rfl⟩
  | some ad =>
    refine wpList_append_own w hgd s x t ho base e i0 z 4 by0 hu hi hz0 hz1 hz2' hz2 (by decide) _ n (Sc.cells xs) hs hown ad m c (Sc.cells ys) hx (by rw [Sc.cells_len, hY.len]) (fun j u hj => hY.cel ad rfl j u hj) (fun u hu => Sc.cells_one hu) (by unfold maxLen; omega) ?_ hbase ?_
    · have := Nat.mul_le_mul hb hby
      omega
    · intro v' w' h1 h2 h3
      have hv : ∃ g' cap', v' = .slice (some ⟨g', 0, none⟩) (n + m) cap' := by
        rcases h1.2 with ⟨h4, h5⟩ | ⟨g', cap', cur, h4, _⟩
        · have := (h3.1 h4).1
          cases this
          rcases hne with hne | hne
          · exact absurd rfl hne
          · omega
        · exact ⟨g', cap', h4⟩
      obtain ⟨g', cap', rfl⟩ := hv
      rw [← Sc.cells_append] at h1
      exact h g' cap' w' h1 h2
end
end Go.Proofs.YtpbgniffjlcbhaaDoor
