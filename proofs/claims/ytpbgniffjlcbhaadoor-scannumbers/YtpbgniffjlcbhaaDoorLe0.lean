/-
  Rows of numbers of any kind, the call's own and others; strings as lists of bytes; what append, copy and a conversion do to them; a drawn region whose condition grows. No Go function is named here.
-/
import Derived.Test.YtpbgniffjlcbhaaDoorMem0
import Derived.Test.YtpbgniffjlcbhaaDoorFrame3
import Derived.Laws.AppendOwnNone
import Derived.Laws.BytesArg
import Derived.Lib.AppendStr
import Derived.Lib.BufferWrite
import Derived.OwnWalk
import Derived.OrdersHeld
import Derived.Deep.RegionHeld3
namespace Go.Proofs.YtpbgniffjlcbhaaDoor
open Go.RowKit
set_option linter.unusedVariables false
set_option linter.unusedSimpArgs false
set_option maxRecDepth 100000
/-- a slice of numbers of the kind k, each below L -/
structure Rw (k : IntKind) (L : Int) (w : World) (A : Option Addr) (n c : Nat) (xs : List Int) : Prop where
  len : xs.length = n
  le : n ≤ c
  max : c ≤ maxLen
  nil : A = none → c = 0
  rng : ∀ x ∈ xs, 0 ≤ x ∧ x < L
  cel : ∀ ad, A = some ad → ∀ j x, xs[j]? = some x → w.cell? (ad.add j) = some (.int k x)
/-- bytes -/
abbrev By (w : World) (A : Option Addr) (n c : Nat) (xs : List Int) : Prop := Rw .u8 256 w A n c xs
/-- words -/
abbrev Wo (w : World) (A : Option Addr) (n c : Nat) (xs : List Int) : Prop := Rw .u32 4294967296 w A n c xs
theorem Rw.ws {w : World} {A : Option Addr} {n c : Nat} {xs : List Int} (h : Wo w A n c xs) : Ws w A n c xs := ⟨h.len, h.le, h.max, h.nil, h.rng, h.cel⟩
theorem Ws.rw {w : World} {A : Option Addr} {n c : Nat} {xs : List Int} (h : Ws w A n c xs) : Wo w A n c xs := ⟨h.len, h.le, h.max, h.nil, h.rng, h.cel⟩
section
variable {k : IntKind} {L : Int} {w w' : World} {A : Option Addr} {n c : Nat} {xs : List Int}
theorem Rw.empty (k : IntKind) (L : Int) (w : World) : Rw k L w none 0 0 [] := ⟨rfl, Nat.le_refl _, by simp [maxLen], fun _ => rfl, by simp, by simp⟩
theorem Rw.lt {ad : Addr} (h : Rw k L w (some ad) n c xs) (hn : 0 < n) : ad.block < w.heap.size := by
  have hl : 0 < xs.length := by have := h.len; omega
  have hx : xs[0]? = some xs[0] := List.getElem?_eq_getElem hl
  have := World.block_lt_of_cell? w _ (h.cel ad rfl 0 _ hx)
  unfold Addr.add at this
  split at this <;> exact this
theorem Rw.to (h : Rw k L w A n c xs) (hk : ∀ ad, A = some ad → 0 < n → w'.heap[ad.block]? = w.heap[ad.block]?) : Rw k L w' A n c xs :=
  ⟨h.len, h.le, h.max, h.nil, h.rng, fun ad e j x hx => by
    have hj : j < xs.length := by
      rcases Nat.lt_or_ge j xs.length with h1 | h1
      · exact h1
      · rw [List.getElem?_eq_none h1] at hx; cases hx
    rw [World.cell?_of_block (w := w) (by rw [show (ad.add j).block = ad.block by cases j <;> rfl]; exact hk ad e (by have := h.len; omega))]
    exact h.cel ad e j x hx⟩
theorem Rw.below (h : Rw k L w A n c xs) (hb : Below w.heap.size w w') : Rw k L w' A n c xs :=
  h.to fun ad e hn => hb.block _ (by subst e; exact h.lt hn)
theorem Rw.drew (h : Rw k L w A n c xs) : Rw k L w.drew A n c xs := ⟨h.len, h.le, h.max, h.nil, h.rng, h.cel⟩
/-- the beginning of a slice -/
theorem Rw.take (h : Rw k L w A n c xs) (m : Nat) (hm : m ≤ n) : Rw k L w A m c (xs.take m) :=
  ⟨by simp [h.len]; omega, by have := h.le; omega, h.max, h.nil, fun x hx => h.rng x (List.mem_of_mem_take hx), fun ad e j x hx => h.cel ad e j x (by
    rw [List.getElem?_take] at hx
    split at hx
    · exact hx
    · cases hx)⟩
theorem Rw.addr {ad : Addr} (h : Rw k L w (some ad) n c xs) (hn : 0 < n) : ∃ b off, ad = ⟨b, off, none⟩ := by
  have hl : 0 < xs.length := by have := h.len; omega
  have hx := h.cel ad rfl 0 _ (List.getElem?_eq_getElem hl)
  obtain ⟨b, off, spot⟩ := ad
  have hspot : spot = none := by simpa [Addr.add] using World.cell?_spot hx
  subst hspot
  exact ⟨b, off, rfl⟩
theorem Rw.place (h : Rw k L w A n c xs) (hn : 0 < n) : ∃ b off, A = some ⟨b, off, none⟩ := by
  cases A with
  | none => have := h.nil rfl; have := h.le; omega
  | some ad => obtain ⟨b, off, rfl⟩ := h.addr hn; exact ⟨b, off, rfl⟩
theorem Rw.cellAt {b off : Nat} (h : Rw k L w (some ⟨b, off, none⟩) n c xs) (j : Nat) (x : Int) (hx : xs[j]? = some x) : w.cell? ⟨b, off + j, none⟩ = some (.int k x) := by
  have := h.cel _ rfl j x hx
  rwa [show (⟨b, off, none⟩ : Addr).add j = ⟨b, off + j, none⟩ by cases j <;> simp [Addr.add]] at this
theorem Rw.cellIn {b off : Nat} (h : Rw k L w (some ⟨b, off, none⟩) n c xs) (j : Nat) (hj : j < xs.length) : w.cell? ⟨b, off + j, none⟩ = some (.int k xs[j]) := h.cellAt j _ (List.getElem?_eq_getElem hj)
/-- a part of a slice -/
theorem Rw.sub {b off : Nat} (h : Rw k L w (some ⟨b, off, none⟩) n c xs) (i j : Nat) (hij : i ≤ j) (hj : j ≤ n) : Rw k L w (some ⟨b, off + i, none⟩) (j - i) (c - i) ((xs.take j).drop i) := by
  have hl := h.len
  refine ⟨by simp; omega, by have := h.le; omega, by have := h.max; omega, by simp, fun x hx => h.rng x (List.mem_of_mem_take (List.mem_of_mem_drop hx)), fun ad e q x hx => ?_⟩
  cases e
  rw [show (⟨b, off + i, none⟩ : Addr).add q = ⟨b, off + (i + q), none⟩ by cases q <;> simp [Addr.add, Nat.add_assoc]]
  refine h.cellAt _ _ ?_
  rw [List.getElem?_drop, List.getElem?_take] at hx
  split at hx
  · exact hx
  · cases hx
end
theorem Bel.trans {a b c : World} (h : Below a.heap.size a b) (k : Below b.heap.size b c) : Below a.heap.size a c := h.trans (k.mono h.size)
/-- the bytes of a string -/
def L.bs (s : ByteArray) : List Int := s.data.toList.map fun b => (b.toNat : Int)
theorem L.bs_len (s : ByteArray) : (L.bs s).length = s.size := by
  rw [L.bs, List.length_map, Array.length_toList]; rfl
theorem L.bs_rng (s : ByteArray) : ∀ x ∈ L.bs s, 0 ≤ x ∧ x < 256 := by
  intro x hx
  obtain ⟨b, _, rfl⟩ := List.mem_map.1 hx
  have := b.toNat_lt
  omega
theorem L.str_bs (s : ByteArray) : strOfNums (L.bs s) = s := by
  obtain ⟨⟨l⟩⟩ := s
  unfold strOfNums L.bs
  simp only [List.map_map]
  rw [List.map_congr_left (g := id)]
  · simp
  · intro x hx
    simp
theorem L.bs_str (xs : List Int) (h : ∀ x ∈ xs, 0 ≤ x ∧ x < 256) : L.bs (strOfNums xs) = xs := by
  unfold strOfNums L.bs
  simp only [List.map_map]
  rw [List.map_congr_left (g := id)]
  · simp
  · intro x hx
    have := h x hx
    simp only [Function.comp, id]
    rw [UInt8.toNat_ofNat_of_lt' (by show x.toNat < 256; omega)]
    omega
theorem L.bs_at (s : ByteArray) (k : Nat) (h : k < s.size) : ((s[k]'h).toNat : Int) = (L.bs s)[k]'(by rw [L.bs_len]; exact h) := by
  unfold L.bs
  simp only [List.getElem_map, Array.getElem_toList]
  rfl
theorem L.cells_bs (s : ByteArray) : Lib.strCells s = (L.bs s).map (Value.int .u8) := by
  unfold Lib.strCells L.bs
  rw [List.map_map]; rfl
theorem L.byteCells_bs (s : ByteArray) : Lib.byteCells s.data.toList = (L.bs s).map (Value.int .u8) := by
  unfold Lib.byteCells L.bs
  rw [List.map_map]; rfl
/-- the slice at the head of the block g owns the numbers xs -/
def Ow (e : TypeId) (k : IntKind) (base g n cap : Nat) (xs : List Int) (w : World) : Prop := w.ownsRow base e 1 (.slice (some ⟨g, 0, none⟩) n cap) n (xs.map (Value.int k))
section
variable {e : TypeId} {k : IntKind} {base g n cap : Nat} {xs : List Int} {w : World}
theorem Ow.has (h : Ow e k base g n cap xs w) : base ≤ g ∧ n ≤ cap ∧ cap ≤ maxLen ∧ xs.length = n ∧ ∃ cur : Array Value, Has g cur e w ∧ cur.size = cap ∧ cur.toList.take n = xs.map (Value.int k) := by
  obtain ⟨h1, h2⟩ := h
  rcases h2 with ⟨h2, _⟩ | ⟨g', cap', cur, hv, hb, hh, hle, hm, hs, ht⟩
  · cases h2
  · cases hv
    rw [Nat.mul_one] at hs ht h1
    exact ⟨hb, hle, hm, by simpa using h1, cur, hh, hs, ht⟩
theorem Ow.mk' (hb : base ≤ g) (h1 : n ≤ cap) (h2 : cap ≤ maxLen) (h3 : xs.length = n) (cur : Array Value) (hh : Has g cur e w) (hs : cur.size = cap) (ht : cur.toList.take n = xs.map (Value.int k)) : Ow e k base g n cap xs w :=
  ⟨by simpa using h3, Or.inr ⟨g, cap, cur, rfl, hb, hh, h1, h2, by simpa using hs, by simpa using ht⟩⟩
theorem Ow.lt (h : Ow e k base g n cap xs w) : g < w.heap.size := by
  obtain ⟨_, _, _, _, cur, hh, _⟩ := h.has; exact hh.lt
theorem Ow.below {w' : World} (h : Ow e k base g n cap xs w) (hb : Below w.heap.size w w') : Ow e k base g n cap xs w' := by
  obtain ⟨h1, h2, h3, h4, cur, h5, h6, h7⟩ := h.has
  exact Ow.mk' h1 h2 h3 h4 cur ((hb.block g h5.lt).trans h5) h6 h7
theorem Ow.rw {L : Int} (h : Ow e k base g n cap xs w) (hr : ∀ x ∈ xs, 0 ≤ x ∧ x < L) : Rw k L w (some ⟨g, 0, none⟩) n cap xs := by
  obtain ⟨h1, h2, h3, h4, cur, hh, hs, ht⟩ := h.has
  refine ⟨h4, h2, h3, by simp, hr, fun ad e j x hx => ?_⟩
  cases e
  rw [show (⟨g, 0, none⟩ : Addr).add j = ⟨g, j, none⟩ by cases j <;> simp [Addr.add]]
  have hj : j < n := by
    rcases Nat.lt_or_ge j n with h1 | h1
    · exact h1
    · rw [List.getElem?_eq_none (by omega)] at hx; cases hx
  refine hh.cell j _ ?_
  have : (cur.toList.take n)[j]? = some (Value.int k x) := by rw [ht, List.getElem?_map, hx]; rfl
  rw [List.getElem?_take, if_pos hj] at this
  simpa using this
/-- a number is stored -/
theorem Ow.set (h : Ow e k base g n cap xs w) (j : Nat) (x : Int) : Ow e k base g n cap (xs.set j x) (w.setCell ⟨g, j, none⟩ (.int k x)) := by
  obtain ⟨h1, h2, h3, h4, cur, h5, h6, h7⟩ := h.has
  refine Ow.mk' h1 h2 h3 (by simpa using h4) _ (h5.set j (.int k x)) (by simpa using h6) ?_
  rw [Array.toList_setIfInBounds, List.take_set, h7, List.map_set]
theorem Ow.free (h : Ow e k base g n cap xs w) (j : Nat) : w.frozen? ⟨g, j, none⟩ = false := by
  obtain ⟨h1, h2, h3, h4, cur, h5, h6, h7⟩ := h.has
  exact h5.free j
theorem Ow.cell (h : Ow e k base g n cap xs w) (j : Nat) (hj : j < n) : ∃ v, w.cell? ⟨g, j, none⟩ = some v := by
  obtain ⟨h1, h2, h3, h4, cur, h5, h6, h7⟩ := h.has
  exact ⟨_, h5.cell j _ (Array.getElem?_eq_getElem (by omega))⟩
/-- nothing, not nil -/
theorem Ow.new (e : TypeId) (k : IntKind) (w : World) (base : Nat) (hb : base ≤ w.heap.size) : Ow e k base w.heap.size 0 0 [] (w.alloc (.cells #[] e)) :=
  Ow.mk' hb (Nat.le_refl _) (by simp [maxLen]) rfl #[] (heap_alloc_last _ _) rfl rfl
/-- one number -/
theorem Ow.one (e : TypeId) (k : IntKind) (x : Int) (w : World) (base : Nat) (hb : base ≤ w.heap.size) : Ow e k base w.heap.size 1 1 [x] (w.alloc (.cells #[.int k x] e)) :=
  Ow.mk' hb (Nat.le_refl _) (by simp [maxLen]) rfl #[.int k x] (heap_alloc_last _ _) rfl rfl
end
section
variable {P : Program} {ops : Array Oper} {rest : List Oper} {o : Oper} {a : Act} {Q : Exit → Act → World → Prop} {w : World}
theorem append_row {e t : TypeId} {k : IntKind} {L : Int} {by0 : Nat} (hu : P.underlying t = some (.slice e)) (hinf : (P.info? e).map (fun i => (i.zero, i.size, i.bytes)) = some (some (.int k 0), 1, by0)) (hby : by0 ≤ 8)
    (hgd : o.guard = none) (s x : Operand)
    (ho : o.op = .call { callee := .builtin .append, args := #[s, x], argTypes := #[t, t] }) (base g n cap : Nat) (xs : List Int) (hs : a.eval s = .slice (some ⟨g, 0, none⟩) n cap) (hown : Ow e k base g n cap xs w)
    (A : Option Addr) (m c : Nat) (ys : List Int) (hx : a.eval x = .slice A m c) (hY : Rw k L w A m c ys) (hb : n + m ≤ 1000000000000) (hbase : base ≤ w.heap.size)
    (h : ∀ g' cap' w', Ow e k base g' (n + m) cap' (xs ++ ys) w' → w.grownBy w' (some g) → wpList P ops Q rest (a.put o.dst (.slice (some ⟨g', 0, none⟩) (n + m) cap')) w') : wpList P ops Q (o :: rest) a w := by
  obtain ⟨i0, hi, hz0, hz1, hz2⟩ := info_parts hinf
  cases A with
  | none =>
    have hc := hY.nil rfl
    have hm : m = 0 := by have := hY.le; omega
    subst hc hm
    have hy : ys = [] := List.eq_nil_of_length_eq_zero hY.len
    subst hy
    refine wpList_append_own_none hgd s x t ho base e i0 1 hu hi _ n _ hs hown hx ?_
    have := h g cap w (by rw [Nat.add_zero, List.append_nil]; exact hown) ⟨rfl, rfl, rfl, Nat.le_refl _, fun _ _ _ => rfl⟩
    exact this
  | some ad =>
    refine wpList_append_own w hgd s x t ho base e i0 (.int k 0) 1 by0 hu hi hz0 hz1 hz2 rfl (by decide) _ n (xs.map (Value.int k)) hs hown ad m c (ys.map (Value.int k)) hx (by rw [List.length_map, hY.len, Nat.mul_one]) ?_ ?_ (by unfold maxLen; omega) ?_ hbase ?_
    · intro j u hj
      rw [List.getElem?_map, Option.map_eq_some_iff] at hj
      obtain ⟨y, hy, rfl⟩ := hj
      exact hY.cel ad rfl j y hy
    · intro u hu
      obtain ⟨y, _, rfl⟩ := List.mem_map.1 hu
      rfl
    · have := Nat.mul_le_mul hb hby
      omega
    · intro v' w' h1 h2 h3
      have hv : ∃ g' cap', v' = .slice (some ⟨g', 0, none⟩) (n + m) cap' := by
        rcases h1.2 with ⟨h4, _⟩ | ⟨g', cap', cur, h4, _⟩
        · have := (h3.1 h4).1
          cases this
        · exact ⟨g', cap', h4⟩
      obtain ⟨g', cap', rfl⟩ := hv
      rw [← List.map_append] at h1
      exact h g' cap' w' h1 h2
/-- a string's bytes are appended -/
theorem append_text {e t u : TypeId} (hu : P.underlying t = some (.slice e)) (hu2 : P.underlying u = some .string) (hinf : (P.info? e).map (fun i => (i.zero, i.size, i.bytes)) = some (some (.int .u8 0), 1, 1))
    (hgd : o.guard = none) (s x : Operand)
    (ho : o.op = .call { callee := .builtin .append, args := #[s, x], argTypes := #[t, u] }) (base g n cap : Nat) (xs : List Int) (hs : a.eval s = .slice (some ⟨g, 0, none⟩) n cap) (hown : Ow e .u8 base g n cap xs w)
    (S : ByteArray) (hx : a.eval x = .string S) (hb : n + S.size ≤ 1000000000000) (hbase : base ≤ w.heap.size)
    (h : ∀ g' cap' w', Ow e .u8 base g' (n + S.size) cap' (xs ++ L.bs S) w' → w.grownBy w' (some g) → wpList P ops Q rest (a.put o.dst (.slice (some ⟨g', 0, none⟩) (n + S.size) cap')) w') : wpList P ops Q (o :: rest) a w := by
  obtain ⟨i0, hi, hz0, hz1, hz2⟩ := info_parts hinf
  refine Lib.wpList_append_own_string w hgd s x t u ho base e i0 hu hu2 hi hz0 hz1 hz2 _ n (xs.map (Value.int .u8)) hs hown S hx (by unfold maxLen; omega) (by omega) hbase ?_
  intro v' w' h1 h2 h3
  have hv : ∃ g' cap', v' = .slice (some ⟨g', 0, none⟩) (n + S.size) cap' := by
    rcases h1.2 with ⟨h4, _⟩ | ⟨g', cap', cur, h4, _⟩
    · have := (h3.1 h4).1
      cases this
    · exact ⟨g', cap', h4⟩
  obtain ⟨g', cap', rfl⟩ := hv
  rw [L.cells_bs, ← List.map_append] at h1
  exact h g' cap' w' h1 h2
/-- copy of a string into a row -/
theorem copy_text {e t u : TypeId} (hu : P.underlying t = some (.slice e)) (hs1 : (P.info? e).map (·.size) = some 1) (hgd : o.guard = none) (d x : Operand)
    (ho : o.op = .call { callee := .builtin .copy, args := #[d, x], argTypes := #[t, u] }) (g off dl dc : Nat) (S : ByteArray) (hd : a.eval d = .slice (some ⟨g, off, none⟩) dl dc) (hx : a.eval x = .string S)
    {cur : Array Value} {t' : TypeId} (hg : Has g cur t' w) (hle : S.size ≤ dl) (hfit : off + S.size ≤ cur.size)
    (h : wpList P ops Q rest (a.put o.dst (.int .i64 S.size)) (w.setRow g (cur.toList.take off ++ (L.bs S).map (Value.int .u8) ++ cur.toList.drop (off + S.size)).toArray)) : wpList P ops Q (o :: rest) a w := by
  refine wpList_plain hgd fun K hK => ?_
  have hr := Lib.run_copy_row_string (P := P) w t u o.type e g off dl dc S cur t' hu hs1 hg hle hfit
  unfold Oper.wp execOp
  simp only [ho, resolve, invoke, builtin, Sem.run_bind, Sem.run_pure, Result.andThen_ok, List.map_toArray, List.map_cons, List.map_nil, hd, hx, hr]
  rw [L.byteCells_bs]
  exact hK _ _ h
/-- string(b) -/
theorem exec_text {src dst e : TypeId} (hs : P.underlying src = some (.slice e)) (he : P.underlying e = some (.int .u8)) (hd : P.underlying dst = some .string) (x : Operand) (ho : o.op = .convert src dst x)
    {A : Option Addr} {n c : Nat} {xs : List Int} (hx : a.eval x = .slice A n c) (h : By w A n c xs) : (execOp a.eval o).run P w = .ok (.value (.string (strOfNums xs))) w := by
  have hr : (convert src dst (.slice A n c)).run P w = .ok (.string (strOfNums xs)) w := by
    rcases Nat.eq_zero_or_pos n with rfl | hn
    · have hy : xs = [] := List.eq_nil_of_length_eq_zero h.len
      subst hy
      cases A with
      | none =>
        have := run_convert_bytes_nil (P := P) w src e hs he 0 c dst hd
        exact this
      | some ad =>
        rw [run_convert_bytes_string w src dst e _ 0 c hs he hd, run_bytesToString w ad 0 c [] (run_loadCells_list (P := P) w ad [] (by simp))]
        rfl
    · obtain ⟨b, off, rfl⟩ := h.place hn
      exact run_convert_bytes_arg w src e hs he b off n c xs h.len (fun i hi => by
        have hi2 : i < xs.length := by have := h.len; omega
        rw [h.cellIn i hi2]
        simp [List.getD, List.getElem?_eq_getElem hi2]) dst hd
  unfold execOp
  simp only [ho, hx, Sem.run_bind, Sem.run_pure, Result.andThen_ok, hr]
theorem want_do {v : Value} (hw : Region.wanted o (yielded ops a.tmps) = true) (he : (execOp a.eval o).run P w = .ok (.value v) w) (h : wpList P ops Q rest (a.put o.dst v) w) : wpList P ops Q (o :: rest) a w :=
  BigFrame.wpList_want hw fun K hK => by
    unfold Oper.wp
    simp only [he, Oper.upon]
    exact hK _ _ h
theorem make_rows (hgd : o.guard = none) (l c : Operand) (t : TypeId) (ho : o.op = .makeSlice t l c)
    (e : TypeId) {z : Value} {b : Nat} (h1 : P.underlying t = some (.slice e)) (hi : (P.info? e).map (fun i => (i.zero, i.size, i.bytes)) = some (some z, 1, b)) (n m : Nat) (N M : Int) (hl : a.eval l = .int .i64 N) (hc : a.eval c = .int .i64 M) (hN : N = n) (hM : M = m) (hnm : n ≤ m)
    (b2 : b * m ≤ 281474976710656) (b3 : m ≤ maxLen)
    (h : wpList P ops Q rest (a.put o.dst (.slice (some ⟨w.heap.size, 0, none⟩) n m)) (w.alloc (.cells (madeCells z.cells m) e))) : wpList P ops Q (o :: rest) a w := by
  subst hN hM
  refine wpList_plain hgd fun K hK => ?_
  obtain ⟨i, hi, hz, hs, hb⟩ := info_parts hi
  have b4 : (i.bytes : Int) * (m : Int) ≤ 281474976710656 := by rw [hb, ← Int.natCast_mul]; exact Int.ofNat_le.2 b2
  have hrun := run_make (P := P) w t e i z h1 hi hz .i64 .i64 n m (by omega) (by omega) b4 (by unfold maxLen at b3; omega)
  simp only [Int.toNat_natCast, hs, Nat.mul_one] at hrun
  unfold Oper.wp
  simp [execOp, ho, hl, hc, hrun, Result.andThen]
  exact hK _ _ h
end
section
variable {P : Program} {ops : Array Oper} {Q : Exit → Act → World → Prop} {md : Region.Mode} {S S' : World → Prop}
/-- a stronger condition from here on -/
theorem wpAnyH_more (hSS : ∀ w, S' w → S w) : ∀ (fuel : Nat) (listed : Array Bool) (a : Act) (w : World), wpAnyH P md ops Q S' fuel listed a w → wpAnyH P md ops Q S fuel listed a w
  | 0, _, _, _, h => h
  | fuel + 1, _, _, _, h => ⟨h.1, fun i hi => wpOp_mono (fun a' w' h' => ⟨hSS _ h'.1, wpAnyH_more hSS fuel _ a' w' h'.2⟩) (h.2 i hi)⟩
/-- nothing that is there turns from here on -/
theorem wpAnyH_now {w0 : World} (fuel : Nat) (listed : Array Bool) (a : Act) (w : World) (hb : Below w0.heap.size w0 w) (h : Below w.heap.size w w → wpAnyH P md ops Q (fun w' => Below w.heap.size w w') fuel listed a w) : wpAnyH P md ops Q (fun w' => Below w0.heap.size w0 w') fuel listed a w :=
  wpAnyH_more (fun w' h' => Bel.trans hb h') fuel listed a w (h (Below.refl _ _))
end
theorem sees_by {w : World} {A : Option Addr} {n c : Nat} (h : Sees w (.sl (.int .u8)) [.slice A n c]) : ∃ xs, By w A n c xs := by
  have hn : A = none → c = 0 := by
    rcases h with h | ⟨a, len, cap, h, _⟩
    · simp only [List.cons.injEq, Value.slice.injEq, and_true] at h
      exact fun _ => h.2.2
    · simp only [List.cons.injEq, Value.slice.injEq, and_true] at h
      exact fun e => by rw [h.1] at e; cases e
  obtain ⟨h1, h2, xs, i1, i2, i3, i4⟩ := sees_ints h
  exact ⟨xs, i1, h1, h2, hn, fun x hx => by have := wf_u8 (i2 x hx); omega, i4⟩
end Go.Proofs.YtpbgniffjlcbhaaDoor
