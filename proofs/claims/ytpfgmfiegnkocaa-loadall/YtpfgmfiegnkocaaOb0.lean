/-
  Rows of names with their places (two cells each): rows that came in, rows of the call's own; what append does to them. Blocks that hold an object's three rows. No Go function is named here.
-/
import Derived.Test.YtpfgmfiegnkocaaObP
import Derived.Test.YtpfgmfiegnkocaaCh0
namespace Go.Proofs.Ytpfgmfiegnkocaa
open Go.RowKit
set_option linter.unusedVariables false
set_option linter.unusedSimpArgs false
set_option maxRecDepth 100000
/-- the cells of names with their places -/
def Ob.cells (ys : List Ob.Y) : List Value := ys.flatMap fun y => [.string y.1, .int .i64 y.2]
theorem Ob.cells_len (ys : List Ob.Y) : (Ob.cells ys).length = ys.length * 2 := by
  induction ys with
  | nil => rfl
  | cons y ys ih =>
    rw [show Ob.cells (y :: ys) = [.string y.1, .int .i64 y.2] ++ Ob.cells ys from rfl, List.length_append, ih]
    simp; omega
theorem Ob.cells_append (xs ys : List Ob.Y) : Ob.cells (xs ++ ys) = Ob.cells xs ++ Ob.cells ys := List.flatMap_append
theorem Ob.cells_at : ∀ (ys : List Ob.Y) (k : Nat) (y : Ob.Y), ys[k]? = some y → (Ob.cells ys)[k * 2]? = some (.string y.1) ∧ (Ob.cells ys)[k * 2 + 1]? = some (.int .i64 y.2)
  | [], k, y, h => by simp at h
  | z :: ys, 0, y, h => by
    simp at h; subst h
    exact ⟨rfl, rfl⟩
  | z :: ys, k + 1, y, h => by
    have := Ob.cells_at ys k y (by simpa using h)
    rw [show Ob.cells (z :: ys) = [.string z.1, .int .i64 z.2] ++ Ob.cells ys from rfl, show (k + 1) * 2 = 2 + k * 2 by omega]
    refine ⟨?_, ?_⟩
    · rw [List.getElem?_append_right (by simp), show 2 + k * 2 - List.length [Value.string z.1, Value.int .i64 z.2] = k * 2 by simp]; exact this.1
    · rw [List.getElem?_append_right (by simp; omega), show 2 + k * 2 + 1 - List.length [Value.string z.1, Value.int .i64 z.2] = k * 2 + 1 by simp; omega]; exact this.2
theorem Ob.cells_take : ∀ (ys : List Ob.Y) (k : Nat), Ob.cells (ys.take k) = (Ob.cells ys).take (k * 2)
  | [], k => by simp [Ob.cells]
  | z :: ys, 0 => by simp [Ob.cells]
  | z :: ys, k + 1 => by
    rw [List.take_succ_cons, show Ob.cells (z :: ys.take k) = .string z.1 :: .int .i64 z.2 :: Ob.cells (ys.take k) from rfl, Ob.cells_take ys k, show Ob.cells (z :: ys) = .string z.1 :: .int .i64 z.2 :: Ob.cells ys from rfl, show (k + 1) * 2 = k * 2 + 1 + 1 by omega, List.take_succ_cons, List.take_succ_cons]
theorem Ob.cells_drop : ∀ (ys : List Ob.Y) (k : Nat), Ob.cells (ys.drop k) = (Ob.cells ys).drop (k * 2)
  | [], k => by simp [Ob.cells]
  | z :: ys, 0 => by simp [Ob.cells]
  | z :: ys, k + 1 => by
    rw [List.drop_succ_cons, Ob.cells_drop ys k, show Ob.cells (z :: ys) = .string z.1 :: .int .i64 z.2 :: Ob.cells ys from rfl, show (k + 1) * 2 = k * 2 + 1 + 1 by omega, List.drop_succ_cons, List.drop_succ_cons]
theorem Ob.cells_one {u : Value} : ∀ {ys : List Ob.Y}, u ∈ Ob.cells ys → u.oneCell' = true := by
  intro ys hu
  obtain ⟨y, _, hy⟩ := List.mem_flatMap.1 hu
  simp only [List.mem_cons, List.not_mem_nil, or_false] at hy
  rcases hy with rfl | rfl <;> rfl
/-- a name or a place is written -/
theorem Ob.cells_set1 : ∀ (ys : List Ob.Y) (k : Nat) (s : ByteArray), k < ys.length → (Ob.cells ys).set (k * 2) (.string s) = Ob.cells (ys.set k (s, Ob.pl ys k))
  | [], k, s, h => by simp at h
  | z :: ys, 0, s, h => rfl
  | z :: ys, k + 1, s, h => by
    have := Ob.cells_set1 ys k s (by simpa using h)
    rw [show Ob.cells (z :: ys) = .string z.1 :: .int .i64 z.2 :: Ob.cells ys from rfl, show (k + 1) * 2 = k * 2 + 1 + 1 by omega, List.set_cons_succ, List.set_cons_succ, this]
    rfl
theorem Ob.cells_set2 : ∀ (ys : List Ob.Y) (k : Nat) (a : Int), k < ys.length → (Ob.cells ys).set (k * 2 + 1) (.int .i64 a) = Ob.cells (ys.set k (Ob.nm ys k, a))
  | [], k, a, h => by simp at h
  | z :: ys, 0, a, h => rfl
  | z :: ys, k + 1, a, h => by
    have := Ob.cells_set2 ys k a (by simpa using h)
    rw [show Ob.cells (z :: ys) = .string z.1 :: .int .i64 z.2 :: Ob.cells ys from rfl, show (k + 1) * 2 + 1 = (k * 2 + 1) + 1 + 1 by omega, List.set_cons_succ, List.set_cons_succ, this]
    rfl
/-- a slice of names with their places -/
structure Sy (w : World) (A : Option Addr) (n c : Nat) (ys : List Ob.Y) : Prop where
  len : ys.length = n
  le : n ≤ c
  max : c ≤ maxLen
  nil : A = none → c = 0
  cel : ∀ ad, A = some ad → ∀ j v, (Ob.cells ys)[j]? = some v → w.cell? (ad.add j) = some v
section
variable {w w' : World} {A : Option Addr} {n c : Nat} {ys : List Ob.Y}
theorem Sy.empty (w : World) : Sy w none 0 0 [] := ⟨rfl, Nat.le_refl _, by simp [maxLen], fun _ => rfl, by simp⟩
theorem Sy.lt {ad : Addr} (h : Sy w (some ad) n c ys) (hn : 0 < n) : ad.block < w.heap.size := by
  have hl : 0 < (Ob.cells ys).length := by have := h.len; rw [Ob.cells_len]; omega
  have := World.block_lt_of_cell? w _ (h.cel ad rfl 0 _ (List.getElem?_eq_getElem hl))
  unfold Addr.add at this
  split at this <;> exact this
theorem Sy.to (h : Sy w A n c ys) (hk : ∀ ad, A = some ad → 0 < n → w'.heap[ad.block]? = w.heap[ad.block]?) : Sy w' A n c ys :=
  ⟨h.len, h.le, h.max, h.nil, fun ad e j v hv => by
    have hj : j < (Ob.cells ys).length := by
      rcases Nat.lt_or_ge j (Ob.cells ys).length with h1 | h1
      · exact h1
      · rw [List.getElem?_eq_none h1] at hv; cases hv
    rw [World.cell?_of_block (w := w) (by rw [show (ad.add j).block = ad.block by cases j <;> rfl]; exact hk ad e (by have := h.len; rw [Ob.cells_len] at hj; omega))]
    exact h.cel ad e j v hv⟩
theorem Sy.below (h : Sy w A n c ys) (hb : Below w.heap.size w w') : Sy w' A n c ys := h.to fun ad e hn => hb.block _ (by subst e; exact h.lt hn)
theorem Sy.drew (h : Sy w A n c ys) : Sy w.drew A n c ys := ⟨h.len, h.le, h.max, h.nil, h.cel⟩
theorem Sy.addr {ad : Addr} (h : Sy w (some ad) n c ys) (hn : 0 < n) : ∃ b off, ad = ⟨b, off, none⟩ := by
  have hl : 0 < (Ob.cells ys).length := by have := h.len; rw [Ob.cells_len]; omega
  have hx := h.cel ad rfl 0 _ (List.getElem?_eq_getElem hl)
  obtain ⟨b, off, spot⟩ := ad
  have hspot : spot = none := by simpa [Addr.add] using World.cell?_spot hx
  subst hspot
  exact ⟨b, off, rfl⟩
theorem Sy.place (h : Sy w A n c ys) (hn : 0 < n) : ∃ b off, A = some ⟨b, off, none⟩ := by
  cases A with
  | none => have := h.nil rfl; have := h.le; omega
  | some ad => obtain ⟨b, off, rfl⟩ := h.addr hn; exact ⟨b, off, rfl⟩
theorem Sy.cellAt {b off : Nat} (h : Sy w (some ⟨b, off, none⟩) n c ys) (j : Nat) (v : Value) (hv : (Ob.cells ys)[j]? = some v) : w.cell? ⟨b, off + j, none⟩ = some v := by
  have := h.cel _ rfl j v hv
  rwa [show (⟨b, off, none⟩ : Addr).add j = ⟨b, off + j, none⟩ by cases j <;> simp [Addr.add]] at this
theorem Sy.name {b off : Nat} (h : Sy w (some ⟨b, off, none⟩) n c ys) (k : Nat) (hk : k < n) : w.cell? ⟨b, off + k * 2, none⟩ = some (.string (Ob.nm ys k)) :=
  h.cellAt _ _ (Ob.cells_at ys k _ (Ob.at_get (by rw [h.len]; exact hk))).1
theorem Sy.at {b off : Nat} (h : Sy w (some ⟨b, off, none⟩) n c ys) (k : Nat) (hk : k < n) : w.cell? ⟨b, off + k * 2 + 1, none⟩ = some (.int .i64 (Ob.pl ys k)) := by
  have := h.cellAt _ _ (Ob.cells_at ys k _ (Ob.at_get (by rw [h.len]; exact hk))).2
  rwa [show off + (k * 2 + 1) = off + k * 2 + 1 by omega] at this
theorem Sy.both {b off : Nat} (h : Sy w (some ⟨b, off, none⟩) n c ys) (k : Nat) (hk : k < n) : w.rangeAt b (off + k * 2) [.string (Ob.nm ys k), .int .i64 (Ob.pl ys k)] := fun j v hv => by
  match j, hv with
  | 0, hv => simp at hv; subst hv; exact h.name k hk
  | 1, hv => simp at hv; subst hv; exact h.at k hk
/-- the beginning of a slice, and a part of it -/
theorem Sy.take (h : Sy w A n c ys) (m : Nat) (hm : m ≤ n) : Sy w A m c (ys.take m) :=
  ⟨by simp [h.len]; omega, by have := h.le; omega, h.max, h.nil, fun ad e j v hv => h.cel ad e j v (by
    rw [Ob.cells_take, List.getElem?_take] at hv
    split at hv
    · exact hv
    · cases hv)⟩
theorem Sy.from {b off : Nat} (h : Sy w (some ⟨b, off, none⟩) n c ys) (i : Nat) (hi : i ≤ n) : Sy w (some ⟨b, off + i * 2, none⟩) (n - i) (c - i) (ys.drop i) :=
  ⟨by simp [h.len], by have := h.le; omega, by have := h.max; omega, by simp, fun ad e j v hv => by
    cases e
    rw [show (⟨b, off + i * 2, none⟩ : Addr).add j = ⟨b, off + (i * 2 + j), none⟩ by cases j <;> simp [Addr.add, Nat.add_assoc]]
    refine h.cellAt _ _ ?_
    rw [Ob.cells_drop, List.getElem?_drop] at hv
    exact hv⟩
end
theorem Sy.of {w : World} {g : Nat} {cs : Array Value} {t : TypeId} (ys : List Ob.Y) (h : Has g cs t w) (hc : cs.toList = Ob.cells ys) (hm : ys.length ≤ maxLen) : Sy w (some ⟨g, 0, none⟩) ys.length ys.length ys :=
  ⟨rfl, Nat.le_refl _, hm, by simp, fun ad e j v hv => by
    cases e
    rw [show (⟨g, 0, none⟩ : Addr).add j = ⟨g, j, none⟩ by cases j <;> simp [Addr.add]]
    exact h.cell j _ (by rw [← hc] at hv; simpa using hv)⟩
theorem Sy.one {w : World} {g : Nat} {s : ByteArray} {a : Int} {t : TypeId} (h : Has g #[.string s, .int .i64 a] t w) : Sy w (some ⟨g, 0, none⟩) 1 1 [(s, a)] := Sy.of [(s, a)] h rfl (by simp [maxLen])
/-- a row of the call's own, or nil -/
def Os (e : TypeId) (base : Nat) (A : Option Addr) (n c : Nat) (ys : List Ob.Y) (w : World) : Prop := w.ownsRow base e 2 (.slice A n c) n (Ob.cells ys)
section
variable {e : TypeId} {base g n c : Nat} {A : Option Addr} {ys : List Ob.Y} {w w' : World}
theorem Os.none (e : TypeId) (base : Nat) (w : World) : Os e base none 0 0 [] w := ⟨rfl, Or.inl ⟨rfl, rfl⟩⟩
theorem Os.has (h : Os e base (some ⟨g, 0, Option.none⟩) n c ys w) : base ≤ g ∧ n ≤ c ∧ c ≤ maxLen ∧ ys.length = n ∧ ∃ cur : Array Value, Has g cur e w ∧ cur.size = c * 2 ∧ cur.toList.take (n * 2) = Ob.cells ys := by
  obtain ⟨h1, h2⟩ := h
  rcases h2 with ⟨h2, _⟩ | ⟨g', cap', cur, hv, hb, hh, hle, hm, hs, ht⟩
  · cases h2
  · cases hv
    rw [Ob.cells_len] at h1
    exact ⟨hb, hle, hm, by omega, cur, hh, hs, ht⟩
theorem Os.mk' (hb : base ≤ g) (h1 : n ≤ c) (h2 : c ≤ maxLen) (h3 : ys.length = n) (cur : Array Value) (hh : Has g cur e w) (hs : cur.size = c * 2) (ht : cur.toList.take (n * 2) = Ob.cells ys) : Os e base (some ⟨g, 0, Option.none⟩) n c ys w :=
  ⟨by rw [Ob.cells_len, h3], Or.inr ⟨g, c, cur, rfl, hb, hh, h1, h2, hs, ht⟩⟩
theorem Os.cases (h : Os e base A n c ys w) : (A = Option.none ∧ n = 0 ∧ c = 0 ∧ ys = []) ∨ ∃ g, A = some ⟨g, 0, Option.none⟩ ∧ Os e base (some ⟨g, 0, Option.none⟩) n c ys w := by
  obtain ⟨h1, h2⟩ := h
  rcases h2 with ⟨h2, h3⟩ | ⟨g', cap', cur, hv, h4⟩
  · cases h2
    refine Or.inl ⟨rfl, rfl, rfl, ?_⟩
    rw [Ob.cells_len] at h1
    exact List.eq_nil_of_length_eq_zero (by omega)
  · cases hv
    exact Or.inr ⟨g', rfl, h1, Or.inr ⟨g', _, cur, rfl, h4⟩⟩
theorem Os.lt (h : Os e base (some ⟨g, 0, Option.none⟩) n c ys w) : g < w.heap.size := by
  obtain ⟨_, _, _, _, cur, hh, _⟩ := h.has; exact hh.lt
theorem Os.sy (h : Os e base A n c ys w) : Sy w A n c ys := by
  rcases h.cases with ⟨rfl, rfl, rfl, rfl⟩ | ⟨g, rfl, h⟩
  · exact Sy.empty w
  · obtain ⟨h1, h2, h3, h4, cur, hh, hs, ht⟩ := h.has
    refine ⟨h4, h2, h3, by simp, fun ad e j v hv => ?_⟩
    cases e
    rw [show (⟨g, 0, Option.none⟩ : Addr).add j = ⟨g, j, Option.none⟩ by cases j <;> simp [Addr.add]]
    refine hh.cell j _ ?_
    rw [← ht, List.getElem?_take] at hv
    split at hv
    · simpa using hv
    · cases hv
theorem Os.below (h : Os e base A n c ys w) (hb : Below w.heap.size w w') : Os e base A n c ys w' := by
  rcases h.cases with ⟨rfl, rfl, rfl, rfl⟩ | ⟨g, rfl, h⟩
  · exact Os.none _ _ _
  · obtain ⟨h1, h2, h3, h4, cur, h5, h6, h7⟩ := h.has
    exact Os.mk' h1 h2 h3 h4 cur ((hb.block g h.lt).trans h5) h6 h7
theorem Os.from (h : Os e base A n c ys w) (q : Nat) (hq : (Value.slice A n c).ownBlock = some q) : base ≤ q := by
  rcases h.cases with ⟨rfl, rfl, rfl, rfl⟩ | ⟨g, rfl, h⟩
  · cases hq
  · cases hq; exact h.has.1
theorem Os.lower {base' : Nat} (h : Os e base A n c ys w) (hb : base' ≤ base) : Os e base' A n c ys w := by
  rcases h.cases with ⟨rfl, rfl, rfl, rfl⟩ | ⟨g, rfl, h⟩
  · exact Os.none _ _ _
  · obtain ⟨h1, h2, h3, h4, cur, h5, h6, h7⟩ := h.has
    exact Os.mk' (by omega) h2 h3 h4 cur h5 h6 h7
theorem Os.drew (h : Os e base A n c ys w) : Os e base A n c ys w.drew := h
/-- nothing, not nil; one -/
theorem Os.new (e : TypeId) (w : World) (base : Nat) (hb : base ≤ w.heap.size) : Os e base (some ⟨w.heap.size, 0, Option.none⟩) 0 0 [] (w.alloc (.cells #[] e)) :=
  Os.mk' hb (Nat.le_refl _) (by simp [maxLen]) rfl #[] (heap_alloc_last _ _) rfl rfl
theorem Os.one (e : TypeId) (s : ByteArray) (a : Int) (w : World) (base : Nat) (hb : base ≤ w.heap.size) : Os e base (some ⟨w.heap.size, 0, Option.none⟩) 1 1 [(s, a)] (w.alloc (.cells #[.string s, .int .i64 a] e)) :=
  Os.mk' hb (Nat.le_refl _) (by simp [maxLen]) rfl #[.string s, .int .i64 a] (heap_alloc_last _ _) rfl rfl
theorem Os.free (h : Os e base (some ⟨g, 0, Option.none⟩) n c ys w) (j : Nat) : w.frozen? ⟨g, j, Option.none⟩ = false := by
  obtain ⟨h1, h2, h3, h4, cur, h5, h6, h7⟩ := h.has
  exact h5.free j
theorem Os.set1 (h : Os e base (some ⟨g, 0, Option.none⟩) n c ys w) (k : Nat) (hk : k < n) (s : ByteArray) : Os e base (some ⟨g, 0, Option.none⟩) n c (ys.set k (s, Ob.pl ys k)) (w.setCell ⟨g, k * 2, Option.none⟩ (.string s)) := by
  obtain ⟨h1, h2, h3, h4, cur, h5, h6, h7⟩ := h.has
  refine Os.mk' h1 h2 h3 (by simpa using h4) _ (h5.set (k * 2) (.string s)) (by simpa using h6) ?_
  rw [Array.toList_setIfInBounds, List.take_set, h7, Ob.cells_set1 ys k s (by omega)]
theorem Os.set2 (h : Os e base (some ⟨g, 0, Option.none⟩) n c ys w) (k : Nat) (hk : k < n) (a : Int) : Os e base (some ⟨g, 0, Option.none⟩) n c (ys.set k (Ob.nm ys k, a)) (w.setCell ⟨g, k * 2 + 1, Option.none⟩ (.int .i64 a)) := by
  obtain ⟨h1, h2, h3, h4, cur, h5, h6, h7⟩ := h.has
  refine Os.mk' h1 h2 h3 (by simpa using h4) _ (h5.set (k * 2 + 1) (.int .i64 a)) (by simpa using h6) ?_
  rw [Array.toList_setIfInBounds, List.take_set, h7, Ob.cells_set2 ys k a (by omega)]
end
section
variable {P : Program} {ops : Array Oper} {rest : List Oper} {o : Oper} {a : Act} {Q : Exit → Act → World → Prop} {w : World}
/-- names are appended to a row that may be nil: one at least, or the row is not nil -/
theorem append_sy {e t : TypeId} {z : Value} {by0 : Nat} (hu : P.underlying t = some (.slice e)) (hinf : (P.info? e).map (fun i => (i.zero, i.size, i.bytes)) = some (some z, 2, by0)) (hz2 : z.cells.size = 2) (hby : by0 ≤ 100)
    (hgd : o.guard = none) (s x : Operand)
    (ho : o.op = .call { callee := .builtin .append, args := #[s, x], argTypes := #[t, t] }) (base : Nat) (A : Option Addr) (n cap : Nat) (xs : List Ob.Y) (hs : a.eval s = .slice A n cap) (hown : Os e base A n cap xs w)
    (B : Option Addr) (m c : Nat) (ys : List Ob.Y) (hx : a.eval x = .slice B m c) (hY : Sy w B m c ys) (hb : n + m ≤ 1000000000000) (hbase : base ≤ w.heap.size) (hne : A ≠ none ∨ 0 < m)
    (h : ∀ g' cap' w', Os e base (some ⟨g', 0, none⟩) (n + m) cap' (xs ++ ys) w' → w.grownBy w' (Value.slice A n cap).ownBlock → wpList P ops Q rest (a.put o.dst (.slice (some ⟨g', 0, none⟩) (n + m) cap')) w') : wpList P ops Q (o :: rest) a w := by
  obtain ⟨i0, hi, hz0, hz1, hz2'⟩ := info_parts hinf
  cases B with
  | none =>
    have hc := hY.nil rfl
    have hm : m = 0 := by have := hY.le; omega
    subst hc hm
    have hy : ys = [] := List.eq_nil_of_length_eq_zero hY.len
    subst hy
    rcases hown.cases with ⟨rfl, _⟩ | ⟨g, rfl, _⟩
    · rcases hne with hne | hne
      · exact absurd rfl hne
      · omega
    · refine wpList_append_own_none hgd s x t ho base e i0 2 hu hi _ n _ hs hown hx ?_
      exact h g cap w (by rw [Nat.add_zero, List.append_nil]; exact hown) ⟨rfl, rfl, rfl, Nat.le_refl _, fun _ _ _ => rfl⟩
  | some ad =>
    refine wpList_append_own w hgd s x t ho base e i0 z 2 by0 hu hi hz0 hz1 hz2' hz2 (by decide) _ n (Ob.cells xs) hs hown ad m c (Ob.cells ys) hx (by rw [Ob.cells_len, hY.len]) (fun j u hj => hY.cel ad rfl j u hj) (fun u hu => Ob.cells_one hu) (by unfold maxLen; omega) ?_ hbase ?_
    · have := Nat.mul_le_mul hb hby
      omega
    · intro v' w' h1 h2 h3
      have hv : ∃ g' cap', v' = .slice (some ⟨g', 0, none⟩) (n + m) cap' := by
        rcases h1.2 with ⟨h4, h5⟩ | ⟨g', cap', cur, h4, _⟩
        · have := (h3.1 h4).1
          cases this
          rcases hne with hne | hne
          · exact absurd rfl hne
          · omega
        · exact ⟨g', cap', h4⟩
      obtain ⟨g', cap', rfl⟩ := hv
      rw [← Ob.cells_append] at h1
      exact h g' cap' w' h1 h2
end
/-- the value of an object: its three rows -/
abbrev Ob.v (A : Option Addr) (n c : Nat) (B : Option Addr) (m d : Nat) (C : Option Addr) (k e : Nat) : Array Value := #[.slice A n c, .slice B m d, .slice C k e]
end Go.Proofs.Ytpfgmfiegnkocaa
