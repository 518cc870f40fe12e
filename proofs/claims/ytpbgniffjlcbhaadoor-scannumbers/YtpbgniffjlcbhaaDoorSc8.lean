/-
  What package scan uses of package strings: a Builder of the call's own (WriteByte, WriteString, String).
-/
import Derived.Test.YtpbgniffjlcbhaaDoorSc4
import Derived.Lib.Builder
import Derived.Lib.UnsafeStr
import Derived.Lib.AppendStr
import Derived.Laws.Externs
import Derived.Shelf.RegionOpenPlain
namespace Go.Proofs.YtpbgniffjlcbhaaDoor
open Go.RowKit
set_option linter.unusedVariables false
set_option linter.unusedSimpArgs false
set_option maxRecDepth 100000
/-- a builder in the block b, of the call's own since B, that holds the numbers -/
def Bu.Bd (B b : Nat) (xs : List Int) (w : World) : Prop := Lib.IsBuilder 47 5 B b (xs.map (Value.int .u8)) w
/-- and if it holds Option.none, it has not been written to -/
def Bu.Bld (B b : Nat) (xs : List Int) (w : World) : Prop := Bu.Bd B b xs w ∧ (xs = [] → w.heap[b]? = some (.cells #[.pointer Option.none, .slice Option.none 0 0] 47 (0, 0)))
theorem Bu.strCells (s : ByteArray) : Lib.strCells s = (L.bs s).map (Value.int .u8) := L.cells_bs s
theorem Bu.Bld.new (w : World) : Bu.Bld w.heap.size w.heap.size [] (w.alloc (.cells #[.pointer Option.none, .slice Option.none 0 0] 47)) := ⟨Lib.fresh_isBuilder _ _ _, fun _ => heap_alloc_new w _⟩
theorem Bu.at_below {T e : TypeId} {B b : Nat} {p : Value} {bs : List Value} {w w' : World} (h : Lib.BuilderAt T e B b p bs w) (hb : Below w.heap.size w w') : Lib.BuilderAt T e B b p bs w' := by
  have hlt := h.lt
  obtain ⟨hB, v, hk, hown, hne⟩ := h
  refine ⟨hB, v, (hb.block b hlt).trans hk, ⟨hown.1, ?_⟩, hne⟩
  rcases hown.2 with hn | ⟨g, cap, cur, hv, hbg, hg, rest⟩
  · exact .inl hn
  · exact .inr ⟨g, cap, cur, hv, hbg, (hb.block g (by
      rcases Nat.lt_or_ge g w.heap.size with h1 | h1
      · exact h1
      · simp [Array.getElem?_eq_none h1] at hg)).trans hg, rest⟩
theorem Bu.Bld.below {B b : Nat} {xs : List Int} {w w' : World} (h : Bu.Bld B b xs w) (hb : Below w.heap.size w w') : Bu.Bld B b xs w' :=
  have hlt : b < w.heap.size := h.1.elim (fun q => q.lt) (fun q => q.lt)
  ⟨h.1.elim (fun q => .inl (Bu.at_below q hb)) (fun q => .inr (Bu.at_below q hb)), fun e => (hb.block b hlt).trans (h.2 e)⟩
theorem Bu.Bd.below {B b : Nat} {xs : List Int} {w w' : World} (h : Bu.Bd B b xs w) (hb : Below w.heap.size w w') : Bu.Bd B b xs w' :=
  h.elim (fun q => .inl (Bu.at_below q hb)) (fun q => .inr (Bu.at_below q hb))
theorem Bu.Bd.full {B b : Nat} {xs : List Int} {w : World} (h : Bu.Bd B b xs w) (hx : xs ≠ []) : Bu.Bld B b xs w := ⟨h, fun e => absurd e hx⟩
/-- blocks of other types stand as they stood -/
def Bu.Spare (w w' : World) : Prop := ∀ (k : Nat) (cs : Array Value) (T : TypeId), T ≠ 47 → T ≠ 5 → Has k cs T w → Has k cs T w'
theorem Bu.Spare.refl (w : World) : Bu.Spare w w := fun _ _ _ _ _ h => h
theorem Bu.Spare.trans {a b c : World} (h : Bu.Spare a b) (k : Bu.Spare b c) : Bu.Spare a c := fun j cs T h1 h2 h3 => k j cs T h1 h2 (h j cs T h1 h2 h3)
theorem Bu.Spare.cell {w : World} {b : Nat} {cs : Array Value} {fr : Nat × Nat} (hb : w.heap[b]? = some (.cells cs 47 fr)) (j : Nat) (v : Value) : Bu.Spare w (w.setCell ⟨b, j, Option.none⟩ v) := fun k cs' T h1 _ h3 => by
  have hk : k ≠ b := fun e => by
    subst e
    have h4 := h3.symm.trans hb
    simp only [Option.some.injEq, Obj.cells.injEq] at h4
    exact h1 h4.2.1
  exact h3.other hk v
theorem Bu.Spare.grown {w w' : World} {B n : Nat} {v : Value} {xs : List Value} (hown : w.ownsRow B 5 1 v n xs) (hg : w.grownBy w' v.ownBlock) : Bu.Spare w w' := fun k cs' T _ h2 h3 => by
  refine (hg.block k h3.lt ?_).trans h3
  intro e
  rcases hown.2 with ⟨hv, _⟩ | ⟨g, cap, cur, hv, _, hgg, _⟩
  · rw [hv] at e; simp [Value.ownBlock] at e
  · rw [hv] at e
    simp only [Value.ownBlock, Option.some.injEq] at e
    subst e
    have h4 := h3.symm.trans hgg
    simp only [Option.some.injEq, Obj.cells.injEq] at h4
    exact h2 h4.2.1
theorem Bu.infoB : (Tryd.prog.info? 47).map (·.size) = some 2 := by kernel_rfl
theorem Bu.lies : liesAt Tryd.prog Tryd.prog.depth 47 (2 / Tryd.prog.cellsOf 47) 0 47 1 = true := by kernel_rfl
set_option maxHeartbeats 2000000 in
set_option maxRecDepth 100000 in
theorem Bu.check_any {B b : Nat} {bs : List Value} {w : World} (h : Lib.IsBuilder 47 5 B b bs w) :
    Calls Tryd.prog 40 #[.pointer (some ⟨b, 0, Option.none⟩)] w fun e w' => e = .returned (.tuple #[]) ∧ (Lib.BuilderAt 47 5 B b (.pointer (some ⟨b, 0, Option.none⟩)) bs w' ∧ Below B w w' ∧ Bu.Spare w w') := by
  obtain ⟨j, hj, hjs⟩ := Option.map_eq_some_iff.1 Bu.infoB
  rcases h with h | h
  · have h0 := h.cell0
    have hsh := h.shape
    have hfz := h.frozen0
    have h1 := h.used (.pointer (some ⟨b, 0, Option.none⟩))
    have h2 := (Below.refl B w).setCell (p := ⟨b, 0, Option.none⟩) h.1 (.pointer (some ⟨b, 0, Option.none⟩))
    have h3 := Lib.hid (show Bu.Spare w (w.setCell ⟨b, 0, Option.none⟩ (.pointer (some ⟨b, 0, Option.none⟩))) from by obtain ⟨_, v, hv, _⟩ := h; exact Bu.Spare.cell hv 0 _)
    replace h1 := Lib.hid h1
    replace h2 := Lib.hid h2
    clear h
    go_enter Tryd.func40, Tryd.ntmps40
    go_wp2
    rw [Lib.run_to_unsafe w ⟨b, 0, Option.none⟩ Tryd.underlying45 Tryd.underlying64 hj (by rw [hjs]; decide) hsh (Nat.zero_lt_succ 1)]
    simp only [Result.andThen]
    rw [Oper.upon_value]
    go_wp2
    rw [run_callFunc_extern Tryd.func45 (by kernel_rfl) (by kernel_rfl) (by kernel_rfl) (e := Extern.AbiNoEscape.same) (by kernel_rfl)]
    rw [Lib.run_noEscape]
    simp only [Result.andThen]
    rw [Oper.upon_value]
    go_wp2
    rw [Lib.run_from_unsafe w ⟨b, 0, Option.none⟩ Tryd.underlying64 Tryd.underlying45 hj hsh Bu.lies]
    simp only [Result.andThen]
    rw [Oper.upon_value]
    go_wp2
    go_end0
    exact ⟨rfl, h1.out, h2.out, h3.out⟩
  · have h0 := h.cell0
    replace h := Lib.hid h
    go_enter Tryd.func40, Tryd.ntmps40
    go_wp2
    rw [Lib.run_neq_ptr_same w _ Tryd.underlying45 hj]
    simp only [Result.andThen]
    rw [Oper.upon_value]
    go_wp2
    go_end0
    exact ⟨rfl, h.out, Below.refl B _, Bu.Spare.refl _⟩
set_option maxHeartbeats 4000000 in
set_option maxRecDepth 100000 in
theorem Bu.write_any {B b : Nat} {xs : List Int} {w : World} (h : Bu.Bd B b xs w) (s : ByteArray) (hlen : xs.length + s.size ≤ 1000000000) (hBw : B ≤ w.heap.size) :
    Calls Tryd.prog 31 #[.pointer (some ⟨b, 0, Option.none⟩), .string s] w fun e w' => e = .returned (.tuple #[.int .i64 s.size, .nilIface]) ∧ Bu.Bd B b (xs ++ L.bs s) w' ∧ Below B w w' ∧ Bu.Spare w w' := by
  obtain ⟨i0, hi, hz0, hz1, hz2⟩ := info_parts Sc.info8
  have hC := Lib.hid (Bu.check_any (show Lib.IsBuilder 47 5 B b (xs.map (Value.int .u8)) w from h))
  clear h
  go_enter Tryd.func31, Tryd.ntmps31
  go_wp2_with (fail)
  refine hC.out.mono ?_
  rintro e w1 ⟨rfl, h1, hb1, hsp⟩
  replace hsp := Lib.hid hsp
  clear hC
  obtain ⟨hB, v, hbk, hown, hne⟩ := h1
  have c0 : w1.cell? ⟨b, 0, Option.none⟩ = some (.pointer (some ⟨b, 0, Option.none⟩)) := by rw [Lib.cell_of_heap hbk]; rfl
  have c1 : w1.cell? ⟨b, 1, Option.none⟩ = some v := by rw [Lib.cell_of_heap hbk]; rfl
  rw [List.length_map] at hown
  go_wp2_with (first
    | (at_builtin; refine Lib.wpList_append_own_string _ rfl _ _ 37 9 rfl B 5 i0 Tryd.underlying37 Tryd.underlying9 hi hz0 hz1 hz2 _ _ _ rfl hown s rfl ?c3 ?c4 ?c5 ?_)
    | fail)
  case c3 => unfold maxLen; omega
  case c4 => omega
  case c5 => have := hb1.size; omega
  intro v' w2 hown' hgrow _
  have hlt : b < w1.heap.size := by
    rcases Nat.lt_or_ge b w1.heap.size with h' | h'
    · exact h'
    · simp [Array.getElem?_eq_none h'] at hbk
  have hb2 : w2.heap[b]? = some (.cells #[.pointer (some ⟨b, 0, Option.none⟩), v] 47 (0, 0)) := by
    rw [hgrow.block b hlt (fun e => hne e.symm)]
    exact hbk
  have d0 : w2.cell? ⟨b, 0, Option.none⟩ = some (.pointer (some ⟨b, 0, Option.none⟩)) := by rw [Lib.cell_of_heap hb2]; rfl
  have d1 : w2.cell? ⟨b, 1, Option.none⟩ = some v := by rw [Lib.cell_of_heap hb2]; rfl
  have f1 : w2.frozen? ⟨b, 1, Option.none⟩ = false := Lib.frozen_of_heap hb2 1
  have hfin := Lib.BuilderAt.put (T := 47) (e := 5) hB hb2 (bs' := xs.map (Value.int .u8) ++ Lib.strCells s) (by simpa [Lib.strCells_length] using hown') (by decide)
  have hfin2 := (hb1.grown hgrow (by have := hb1.size; omega) (fun k hk => (hown.lt k hk).1)).setCell (p := ⟨b, 1, Option.none⟩) hB v'
  have hfin3 := Lib.hid (hsp.out.trans ((Bu.Spare.grown hown hgrow).trans (Bu.Spare.cell hb2 1 v')))
  clear hsp
  replace hfin := Lib.hid hfin
  replace hfin2 := Lib.hid hfin2
  obtain ⟨ao, n', cap, rfl⟩ : ∃ ao n' cap, v' = .slice ao n' cap := by
    rcases hown'.2 with ⟨hv, _⟩ | ⟨g, cap, cur, hv, _⟩
    · exact ⟨_, _, _, hv⟩
    · exact ⟨_, _, _, hv⟩
  clear hown' hgrow hbk c0 c1 hown hne
  go_wp2
  go_ret2
  refine ⟨rfl, ?_, hfin2.out, hfin3.out⟩
  show Lib.IsBuilder _ _ _ _ (List.map _ (xs ++ L.bs s)) _
  rw [List.map_append, ← Bu.strCells]
  exact Or.inr hfin.out
set_option maxHeartbeats 4000000 in
set_option maxRecDepth 100000 in
theorem Bu.writeB_any {B b : Nat} {xs : List Int} {w : World} (h : Bu.Bd B b xs w) (c : Int) (hlen : xs.length ≤ 1000000000) (hBw : B ≤ w.heap.size) :
    Calls Tryd.prog 30 #[.pointer (some ⟨b, 0, Option.none⟩), .int .u8 c] w fun e w' => e = .returned .nilIface ∧ Bu.Bd B b (xs ++ [c]) w' ∧ Below B w w' ∧ Bu.Spare w w' := by
  obtain ⟨i0, hi, hz0, hz1, hz2⟩ := info_parts Sc.info8
  have hC := Lib.hid (Bu.check_any (show Lib.IsBuilder 47 5 B b (xs.map (Value.int .u8)) w from h))
  clear h
  go_enter Tryd.func30, Tryd.ntmps30
  go_wp2_with (fail)
  refine hC.out.mono ?_
  rintro e w1 ⟨rfl, h1, hb1, hsp⟩
  replace hsp := Lib.hid hsp
  clear hC
  obtain ⟨hB, v, hbk, hown, hne⟩ := h1
  have c0 : w1.cell? ⟨b, 0, Option.none⟩ = some (.pointer (some ⟨b, 0, Option.none⟩)) := by rw [Lib.cell_of_heap hbk]; rfl
  have c1 : w1.cell? ⟨b, 1, Option.none⟩ = some v := by rw [Lib.cell_of_heap hbk]; rfl
  rw [List.length_map] at hown
  have hA := ((Kept.refl w1).alloc #[.int .u8 c] 5).below
  have hN := Lib.hid (Has.new #[.int .u8 c] 5 w1)
  have hbl : b < w1.heap.size := by
    rcases Nat.lt_or_ge b w1.heap.size with h' | h'
    · exact h'
    · simp [Array.getElem?_eq_none h'] at hbk
  have hown2 : (w1.alloc (.cells #[.int .u8 c] 5)).ownsRow B 5 1 v xs.length (xs.map (Value.int .u8)) := by
    refine ⟨hown.1, ?_⟩
    rcases hown.2 with hn | ⟨g, cap, cur, hv, hbg, hg, rest⟩
    · exact .inl hn
    · exact .inr ⟨g, cap, cur, hv, hbg, (hA.block g (by
        rcases Nat.lt_or_ge g w1.heap.size with h1 | h1
        · exact h1
        · simp [Array.getElem?_eq_none h1] at hg)).trans hg, rest⟩
  have hbk2 : (w1.alloc (.cells #[.int .u8 c] 5)).heap[b]? = some (.cells #[.pointer (some ⟨b, 0, Option.none⟩), v] 47 (0, 0)) := (hA.block b hbl).trans hbk
  have hb1' := hb1.trans (hA.mono (Nat.le_trans hBw hb1.size))
  have hsp' := Lib.hid (hsp.out.trans (show Bu.Spare w1 (w1.alloc (.cells #[.int .u8 c] 5)) from fun k cs T _ _ h3 => h3.below hA))
  clear hsp hown hbk hA hbl
  have hown := hown2
  have hbk := hbk2
  have hsp := hsp'
  clear hown2 hbk2 hsp'
  have hw1 : B ≤ (w1.alloc (.cells #[.int .u8 c] 5)).heap.size := Nat.le_trans hBw hb1'.size
  replace hb1 := hb1'
  clear hb1'
  go_wp2_with (first
    | (at_builtin
       refine wpList_append_own _ rfl _ _ 37 rfl B 5 i0 _ 1 1 Tryd.underlying37 hi hz0 hz1 hz2 rfl (by decide) _ _ _ rfl hown ⟨w1.heap.size, 0, Option.none⟩ 1 1 [.int .u8 c] rfl rfl (fun j u hj => ?c1) (fun u hu => ?c2) ?c3 ?c4 ?c5 ?_)
    | fail)
  case c1 =>
    match j, hj with
    | 0, hj => cases hj; exact hN.out.cell 0 _ rfl
    | j + 1, hj => simp at hj
  case c2 =>
    simp only [List.mem_singleton] at hu
    subst hu; rfl
  case c3 => unfold maxLen; omega
  case c4 => omega
  case c5 => exact hw1
  intro v' w2 hown' hgrow _
  have hlt : b < (w1.alloc (.cells #[.int .u8 c] 5)).heap.size := by
    rcases Nat.lt_or_ge b (w1.alloc (.cells #[.int .u8 c] 5)).heap.size with h' | h'
    · exact h'
    · simp [Array.getElem?_eq_none h'] at hbk
  have hb2 : w2.heap[b]? = some (.cells #[.pointer (some ⟨b, 0, Option.none⟩), v] 47 (0, 0)) := by
    rw [hgrow.block b hlt (fun e => hne e.symm)]
    exact hbk
  have d0 : w2.cell? ⟨b, 0, Option.none⟩ = some (.pointer (some ⟨b, 0, Option.none⟩)) := by rw [Lib.cell_of_heap hb2]; rfl
  have d1 : w2.cell? ⟨b, 1, Option.none⟩ = some v := by rw [Lib.cell_of_heap hb2]; rfl
  have f1 : w2.frozen? ⟨b, 1, Option.none⟩ = false := Lib.frozen_of_heap hb2 1
  have hfin := Lib.BuilderAt.put (T := 47) (e := 5) hB hb2 (bs' := xs.map (Value.int .u8) ++ [.int .u8 c]) (by simpa using hown') (by decide)
  have hfin2 := (hb1.grown hgrow hw1 (fun k hk => (hown.lt k hk).1)).setCell (p := ⟨b, 1, Option.none⟩) hB v'
  have hfin3 := Lib.hid (hsp.out.trans ((Bu.Spare.grown hown hgrow).trans (Bu.Spare.cell hb2 1 v')))
  clear hsp
  replace hfin := Lib.hid hfin
  replace hfin2 := Lib.hid hfin2
  obtain ⟨ao, n', cap, rfl⟩ : ∃ ao n' cap, v' = .slice ao n' cap := by
    rcases hown'.2 with ⟨hv, _⟩ | ⟨g, cap, cur, hv, _⟩
    · exact ⟨_, _, _, hv⟩
    · exact ⟨_, _, _, hv⟩
  clear hown' hgrow hbk c0 c1 hown hne
  go_wp2
  go_ret
  refine ⟨rfl, ?_, hfin2.out, hfin3.out⟩
  show Lib.IsBuilder _ _ _ _ (List.map _ (xs ++ [c])) _
  rw [List.map_append]
  exact Or.inr hfin.out
theorem Bu.bytes (xs : List Int) (h : L.Byt xs) : xs.map (Value.int .u8) = Lib.byteCells (strOfNums xs).data.toList := by
  rw [L.byteCells_bs, L.bs_str xs h]
set_option maxHeartbeats 4000000 in
set_option maxRecDepth 100000 in
theorem Bu.str_core {B b n c : Nat} {A P : Option Addr} {w W2 : World} {s : ByteArray} (c1 : w.drew.cell? ⟨b, 1, Option.none⟩ = some (.slice A n c)) (hSD : (Builtin.unsafeSliceData_ #[37] 62 #[.slice A n c]).run Tryd.prog w.drew = .ok (.pointer P) w.drew)
    (hUS : (Builtin.unsafeString_ #[62, 3] 9 #[.pointer P, .int .i64 n]).run Tryd.prog w.drew = .ok (.string s) W2) (h2 : W2.cell? ⟨b, 1, Option.none⟩ = some (.slice A n c)) (hb : Below B w W2) :
    Calls Tryd.prog 32 #[.pointer (some ⟨b, 0, Option.none⟩)] w fun e w' => e = .returned (.string s) ∧ Below B w w' := by
  have hb0 := Lib.hid (Below.drew (Below.refl B w))
  go_enter Tryd.func32, Tryd.ntmps32
  go_wp2
  refine wp_region_held_drew (S := fun w' => w'.cell? ⟨b, 1, Option.none⟩ = some (.slice A n c) ∧ Below B w w') (by kernel_rfl) ?_ (fun hHeld => ?_)
  · exact ⟨c1, hb0.out⟩
  refine wpAnyH_take (i := 0) (oi := { dst := some 3, op := Op.move (Operand.tmp 0), type := 45, pos := "builder.go:47", after := #[], guard := none }) (v := ?_) rfl (by kernel_rfl) (by kernel_rfl) (by kernel_rfl) (fun _ _ _ h => h) (Or.inl ⟨rfl, ?_⟩) hHeld ?_
  rotate_left
  · (intro wz hSw; (try dsimp only at hSw); go_simp; try with_reducible rfl)
  try simp only [Act.put, List.setIfInBounds_toArray, List.set_cons_zero, List.set_cons_succ]
  refine wpAnyH_take (i := 1) (oi := { dst := some 4, op := Op.nilCheck (Operand.tmp 3), type := 0, pos := "builder.go:47", after := #[{ on := 0, ground := Ground.data }], guard := none }) (v := ?_) rfl (by kernel_rfl) (by kernel_rfl) (by kernel_rfl) (fun _ _ _ h => h) (Or.inl ⟨rfl, ?_⟩) hHeld ?_
  rotate_left
  · (intro wz hSw; (try dsimp only at hSw); go_simp; try with_reducible rfl)
  try simp only [Act.put, List.setIfInBounds_toArray, List.set_cons_zero, List.set_cons_succ]
  refine wpAnyH_take (i := 2) (oi := { dst := some 5, op := Op.fieldAddr 47 (Operand.tmp 4) 1, type := 0, pos := "builder.go:47", after := #[{ on := 1, ground := Ground.data }], guard := none }) (v := ?_) rfl (by kernel_rfl) (by kernel_rfl) (by kernel_rfl) (fun _ _ _ h => h) (Or.inl ⟨rfl, ?_⟩) hHeld ?_
  rotate_left
  · (intro wz hSw; (try dsimp only at hSw); go_simp; try with_reducible rfl)
  try simp only [Act.put, List.setIfInBounds_toArray, List.set_cons_zero, List.set_cons_succ]
  refine wpAnyH_take (i := 3) (oi := { dst := some 6, op := Op.load 37 (Operand.tmp 5), type := 37, pos := "builder.go:47", after := #[{ on := 2, ground := Ground.data }], guard := none }) (v := ?_) rfl (by kernel_rfl) (by kernel_rfl) (by kernel_rfl) (fun _ _ _ h => h) (Or.inl ⟨rfl, ?_⟩) hHeld ?_
  rotate_left
  · (intro wz hSw; have o1 := hSw.1; go_simp; try with_reducible rfl)
  try simp only [Act.put, List.setIfInBounds_toArray, List.set_cons_zero, List.set_cons_succ]
  refine wpAnyH_take (i := 5) (oi := { dst := some 8, op := Op.move (Operand.tmp 0), type := 45, pos := "builder.go:47", after := #[], guard := none }) (v := ?_) rfl (by kernel_rfl) (by kernel_rfl) (by kernel_rfl) (fun _ _ _ h => h) (Or.inl ⟨rfl, ?_⟩) hHeld ?_
  rotate_left
  · (intro wz hSw; (try dsimp only at hSw); go_simp; try with_reducible rfl)
  try simp only [Act.put, List.setIfInBounds_toArray, List.set_cons_zero, List.set_cons_succ]
  refine wpAnyH_take (i := 6) (oi := { dst := some 9, op := Op.nilCheck (Operand.tmp 8), type := 0, pos := "builder.go:47", after := #[{ on := 5, ground := Ground.data }], guard := none }) (v := ?_) rfl (by kernel_rfl) (by kernel_rfl) (by kernel_rfl) (fun _ _ _ h => h) (Or.inl ⟨rfl, ?_⟩) hHeld ?_
  rotate_left
  · (intro wz hSw; (try dsimp only at hSw); go_simp; try with_reducible rfl)
  try simp only [Act.put, List.setIfInBounds_toArray, List.set_cons_zero, List.set_cons_succ]
  refine wpAnyH_take (i := 7) (oi := { dst := some 10, op := Op.fieldAddr 47 (Operand.tmp 9) 1, type := 0, pos := "builder.go:47", after := #[{ on := 6, ground := Ground.data }], guard := none }) (v := ?_) rfl (by kernel_rfl) (by kernel_rfl) (by kernel_rfl) (fun _ _ _ h => h) (Or.inl ⟨rfl, ?_⟩) hHeld ?_
  rotate_left
  · (intro wz hSw; (try dsimp only at hSw); go_simp; try with_reducible rfl)
  try simp only [Act.put, List.setIfInBounds_toArray, List.set_cons_zero, List.set_cons_succ]
  refine wpAnyH_take (i := 8) (oi := { dst := some 11, op := Op.load 37 (Operand.tmp 10), type := 37, pos := "builder.go:47", after := #[{ on := 7, ground := Ground.data }], guard := none }) (v := ?_) rfl (by kernel_rfl) (by kernel_rfl) (by kernel_rfl) (fun _ _ _ h => h) (Or.inl ⟨rfl, ?_⟩) hHeld ?_
  rotate_left
  · (intro wz hSw; have o1 := hSw.1; go_simp; try with_reducible rfl)
  try simp only [Act.put, List.setIfInBounds_toArray, List.set_cons_zero, List.set_cons_succ]
  refine wpAnyH_ready (rs := [4, 9]) (by kernel_rfl) (by simp) ?_
  refine AllReadyH.cons (o := { dst := some 7, op := Op.call { callee := Callee.builtin Builtin.unsafeSliceData, args := #[Operand.tmp 6], argTypes := #[37] }, type := 62, pos := "builder.go:47", after := #[{ on := 3, ground := Ground.data }], guard := none }) rfl (fun K hK => ?_) (AllReadyH.cons (o := { dst := some 12, op := Op.call { callee := Callee.builtin Builtin.len, args := #[Operand.tmp 11], argTypes := #[37] }, type := 3, pos := "builder.go:47", after := #[{ on := 8, ground := Ground.data }], guard := none }) rfl (fun K hK => ?_) (AllReadyH.nil))
  · go_simp
    have hN := (show (fun w' => w'.cell? ⟨b, 1, Option.none⟩ = some (.slice A n c) ∧ Below B w w') _ from ⟨c1, hb0.out⟩)
    clear hHeld
    refine hK.out _ _ hN (fun hHeld => ?_)
    clear hK K hN
    try simp only [Act.put, List.setIfInBounds_toArray, List.set_cons_zero, List.set_cons_succ]
    refine wpAnyH_ready (rs := [9]) (by kernel_rfl) (by simp) ?_
    refine AllReadyH.cons (o := { dst := some 12, op := Op.call { callee := Callee.builtin Builtin.len, args := #[Operand.tmp 11], argTypes := #[37] }, type := 3, pos := "builder.go:47", after := #[{ on := 8, ground := Ground.data }], guard := none }) rfl (fun K hK => ?_) (AllReadyH.nil)
    go_simp
    have hN := (show (fun w' => w'.cell? ⟨b, 1, Option.none⟩ = some (.slice A n c) ∧ Below B w w') _ from ⟨c1, hb0.out⟩)
    clear hHeld
    refine hK.out _ _ hN (fun hHeld => ?_)
    clear hK K hN
    try simp only [Act.put, List.setIfInBounds_toArray, List.set_cons_zero, List.set_cons_succ]
    refine wpAnyH_ready (rs := [10]) (by kernel_rfl) (by simp) ?_
    refine AllReadyH.cons (o := { dst := some 13, op := Op.call { callee := Callee.builtin Builtin.unsafeString, args := #[Operand.tmp 7, Operand.tmp 12], argTypes := #[62, 3] }, type := 9, pos := "builder.go:47", after := #[{ on := 4, ground := Ground.data }, { on := 9, ground := Ground.data }], guard := none }) rfl (fun K hK => ?_) (AllReadyH.nil)
    go_simp
    try rw [hUS]
    try simp only [Result.andThen]
    have hN := (show (fun w' => w'.cell? ⟨b, 1, Option.none⟩ = some (.slice A n c) ∧ Below B w w') _ from ⟨h2, hb⟩)
    clear hHeld
    refine hK.out _ _ hN (fun hHeld => ?_)
    clear hK K hN
    try simp only [Act.put, List.setIfInBounds_toArray, List.set_cons_zero, List.set_cons_succ]
    refine wpAnyH_take (i := 11) (oi := { dst := some 2, op := Op.assign (Operand.tmp 13), type := 9, pos := "builder.go:47", after := #[{ on := 10, ground := Ground.data }, { on := 0, ground := Ground.phase }, { on := 1, ground := Ground.phase }, { on := 2, ground := Ground.phase }, { on := 3, ground := Ground.phase }, { on := 4, ground := Ground.phase }, { on := 5, ground := Ground.phase }, { on := 6, ground := Ground.phase }, { on := 7, ground := Ground.phase }, { on := 8, ground := Ground.phase }, { on := 9, ground := Ground.phase }, { on := 10, ground := Ground.phase }], guard := none }) (v := ?_) rfl (by kernel_rfl) (by kernel_rfl) (by kernel_rfl) (fun _ _ _ h => h) (Or.inl ⟨rfl, ?_⟩) hHeld ?_
    rotate_left
    · (intro wz hSw; (try dsimp only at hSw); go_simp; try with_reducible rfl)
    try simp only [Act.put, List.setIfInBounds_toArray, List.set_cons_zero, List.set_cons_succ]
    refine wpAnyH_done (by kernel_rfl) ?_ _
    go_wp2
    go_ret
    exact ⟨rfl, hb⟩
  · go_simp
    have hN := (show (fun w' => w'.cell? ⟨b, 1, Option.none⟩ = some (.slice A n c) ∧ Below B w w') _ from ⟨c1, hb0.out⟩)
    clear hHeld
    refine hK.out _ _ hN (fun hHeld => ?_)
    clear hK K hN
    try simp only [Act.put, List.setIfInBounds_toArray, List.set_cons_zero, List.set_cons_succ]
    refine wpAnyH_ready (rs := [4]) (by kernel_rfl) (by simp) ?_
    refine AllReadyH.cons (o := { dst := some 7, op := Op.call { callee := Callee.builtin Builtin.unsafeSliceData, args := #[Operand.tmp 6], argTypes := #[37] }, type := 62, pos := "builder.go:47", after := #[{ on := 3, ground := Ground.data }], guard := none }) rfl (fun K hK => ?_) (AllReadyH.nil)
    go_simp
    have hN := (show (fun w' => w'.cell? ⟨b, 1, Option.none⟩ = some (.slice A n c) ∧ Below B w w') _ from ⟨c1, hb0.out⟩)
    clear hHeld
    refine hK.out _ _ hN (fun hHeld => ?_)
    clear hK K hN
    try simp only [Act.put, List.setIfInBounds_toArray, List.set_cons_zero, List.set_cons_succ]
    refine wpAnyH_ready (rs := [10]) (by kernel_rfl) (by simp) ?_
    refine AllReadyH.cons (o := { dst := some 13, op := Op.call { callee := Callee.builtin Builtin.unsafeString, args := #[Operand.tmp 7, Operand.tmp 12], argTypes := #[62, 3] }, type := 9, pos := "builder.go:47", after := #[{ on := 4, ground := Ground.data }, { on := 9, ground := Ground.data }], guard := none }) rfl (fun K hK => ?_) (AllReadyH.nil)
    go_simp
    try rw [hUS]
    try simp only [Result.andThen]
    have hN := (show (fun w' => w'.cell? ⟨b, 1, Option.none⟩ = some (.slice A n c) ∧ Below B w w') _ from ⟨h2, hb⟩)
    clear hHeld
    refine hK.out _ _ hN (fun hHeld => ?_)
    clear hK K hN
    try simp only [Act.put, List.setIfInBounds_toArray, List.set_cons_zero, List.set_cons_succ]
    refine wpAnyH_take (i := 11) (oi := { dst := some 2, op := Op.assign (Operand.tmp 13), type := 9, pos := "builder.go:47", after := #[{ on := 10, ground := Ground.data }, { on := 0, ground := Ground.phase }, { on := 1, ground := Ground.phase }, { on := 2, ground := Ground.phase }, { on := 3, ground := Ground.phase }, { on := 4, ground := Ground.phase }, { on := 5, ground := Ground.phase }, { on := 6, ground := Ground.phase }, { on := 7, ground := Ground.phase }, { on := 8, ground := Ground.phase }, { on := 9, ground := Ground.phase }, { on := 10, ground := Ground.phase }], guard := none }) (v := ?_) rfl (by kernel_rfl) (by kernel_rfl) (by kernel_rfl) (fun _ _ _ h => h) (Or.inl ⟨rfl, ?_⟩) hHeld ?_
    rotate_left
    · (intro wz hSw; (try dsimp only at hSw); go_simp; try with_reducible rfl)
    try simp only [Act.put, List.setIfInBounds_toArray, List.set_cons_zero, List.set_cons_succ]
    refine wpAnyH_done (by kernel_rfl) ?_ _
    go_wp2
    go_ret
    exact ⟨rfl, hb⟩
theorem Bu.cell_freeze (w : World) (p q : Addr) (n : Nat) : (w.freeze p n).cell? q = w.cell? q := by
  unfold World.freeze
  by_cases hn : n = 0
  · rw [if_pos hn]
  rw [if_neg hn]
  unfold World.cell?
  by_cases e : p.block = q.block
  · simp only [Array.getElem?_modify, e, if_true]
    cases h : w.heap[q.block]? with
    | none => rfl
    | some o => cases o <;> rfl
  · simp only [Array.getElem?_modify, e, if_false]
set_option maxRecDepth 100000 in
theorem Bu.str_any {B b : Nat} {xs : List Int} {w : World} (h : Bu.Bld B b xs w) (hx : L.Byt xs) :
    Calls Tryd.prog 32 #[.pointer (some ⟨b, 0, Option.none⟩)] w fun e w' => e = .returned (.string (strOfNums xs)) ∧ Below B w w' := by
  by_cases h0 : xs = []
  · have hbk := h.2 h0
    subst h0
    have c1 : w.drew.cell? ⟨b, 1, Option.none⟩ = some (.slice Option.none 0 0) := by
      have : w.drew.heap[b]? = some (.cells #[.pointer Option.none, .slice Option.none 0 0] 47 (0, 0)) := hbk
      rw [Lib.cell_of_heap this]; rfl
    exact Bu.str_core c1 rfl (Lib.run_unsafeString_none _ _ _ _ Option.none) c1 (Below.drew (Below.refl B w))
  · obtain ⟨h', _⟩ := h
    have h' : ∃ p, Lib.BuilderAt 47 5 B b p (xs.map (Value.int .u8)) w := h'.elim (fun q => ⟨_, q⟩) (fun q => ⟨_, q⟩)
    obtain ⟨p, hB, v, hbk, hown, hne⟩ := h'
    have hl0 : xs.length ≠ 0 := by simpa using h0
    rw [List.length_map] at hown
    obtain ⟨g, cap, cur, rfl, hbg, hg, hnc, hcm, hcs, htake⟩ : ∃ g cap cur, v = .slice (some ⟨g, 0, Option.none⟩) xs.length cap ∧ B ≤ g ∧ w.heap[g]? = some (.cells cur 5 (0, 0)) ∧ xs.length ≤ cap ∧ cap ≤ maxLen ∧ cur.size = cap * 1 ∧ cur.toList.take (xs.length * 1) = xs.map (Value.int .u8) := by
      rcases hown.2 with ⟨_, hz⟩ | ⟨g, cap, cur, hv, r⟩
      · exact absurd hz hl0
      · exact ⟨g, cap, cur, hv, r⟩
    have c1 : w.drew.cell? ⟨b, 1, Option.none⟩ = some (.slice (some ⟨g, 0, Option.none⟩) xs.length cap) := by
      have : w.drew.heap[b]? = some (.cells #[p, .slice (some ⟨g, 0, Option.none⟩) xs.length cap] 47 (0, 0)) := hbk
      rw [Lib.cell_of_heap this]; rfl
    have hSD : (Builtin.unsafeSliceData_ #[37] 62 #[.slice (some ⟨g, 0, Option.none⟩) xs.length cap]).run Tryd.prog w.drew = .ok (.pointer (some ⟨g, 0, Option.none⟩)) w.drew :=
      Lib.run_unsafeSliceData_row _ _ _ _ _ _ (by omega)
    have hUS : (Builtin.unsafeString_ #[62, 3] 9 #[.pointer (some ⟨g, 0, Option.none⟩), .int .i64 xs.length]).run Tryd.prog w.drew = .ok (.string (strOfNums xs)) (w.drew.freeze ⟨g, 0, Option.none⟩ xs.length) := by
      have hls : (strOfNums xs).data.toList.length = xs.length := by rw [Array.length_toList]; exact strOfNums_size xs
      have hne : (strOfNums xs).data.toList ≠ [] := fun q => by rw [q] at hls; exact hl0 hls.symm
      have := Lib.run_unsafeString_row (P := Tryd.prog) w.drew 62 3 9 5 Tryd.underlying62 Sc.cellsOf8 g cur.size (by have hg' : w.drew.heap[g]? = some (.cells cur 5 (0, 0)) := hg; simp [World.shape?, hg']) (strOfNums xs).data.toList hne (by omega) (by unfold maxLen at hcm; omega) (by
        intro j x hj
        have h1 : (xs.map (Value.int .u8))[j]? = some (.int .u8 x.toNat) := by rw [Bu.bytes xs hx]; simp [Lib.byteCells, hj]
        exact hown.cells (g := g) rfl j (.int .u8 x.toNat) h1)
      rw [hls] at this
      exact this
    exact Bu.str_core c1 hSD hUS ((Bu.cell_freeze _ _ _ _).trans c1) (Lib.below_freeze (Below.drew (Below.refl B w)) (p := ⟨g, 0, Option.none⟩) hbg _)
end Go.Proofs.YtpbgniffjlcbhaaDoor
