/-
  What a row lists of package-level variables, as the walks want it: the table of conditions lies in its block; the heap that the program's own start leaves holds it.
-/
import Derived.Test.YtkkoihhkfophnaaDoorNa8
import Derived.LaidMore
import Derived.OpenShut
import Derived.ProofKit
import Derived.Stop.Joined
import Derived.MakeChecks
namespace Go.Proofs.YtkkoihhkfophnaaDoor
open Go.ChangeShapes Go.WideShapes Go.ChangeAt Go.RowKit
set_option linter.unusedVariables false
set_option linter.unusedSimpArgs false
set_option maxRecDepth 100000
theorem Na.condLaid {H : Type} : (Rows.laid_rivet_name_conditions : DataW H) = .agg (Na.cs.map fun s => .lit (.string s.data.toList)) := rfl
theorem Na.gConds : Tryd.prog.globalNamed "rivet/name.conditions" = some 0 := by kernel_rfl
theorem Na.tConds : (Tryd.prog.globals[0]?).map (·.type) = some 51 := by kernel_rfl
theorem Na.cellsS : Tryd.prog.cellsOf 9 = 1 := by kernel_rfl
theorem Na.conds_of {H : Type} {enc : TypeId × Value → H} {W : World} {sp : Nat → Bool} {held : Bool} {f : Nat} {cs : Array Value} {q : List MemPlace} (hv : W.var? Tryd.prog "rivet/name.conditions" = some cs)
    (hd : DataW.trod enc Tryd.prog W 0 sp held f 51 cs.toList = some (Rows.laid_rivet_name_conditions, q)) : Na.Conds W := by
  obtain ⟨xs, m, rfl, hx, hl, hn, hel⟩ := DataW.trod_array Tryd.underlying51 hd
  rw [Na.condLaid] at hx
  have hx1 : Na.cs.map (fun s => (.lit (.string s.data.toList) : DataW H)) = xs.map (·.1) := by
    have := congrArg Prod.fst hx
    simpa using this
  intro j s hs
  have hj : j < 16 := by
    rcases Nat.lt_or_ge j 16 with h | h
    · exact h
    · rw [List.getElem?_eq_none (by exact h)] at hs; cases hs
  obtain ⟨z, hz⟩ : ∃ z, xs[j]? = some z := ⟨_, List.getElem?_eq_getElem (by omega)⟩
  have h1 := hel j hj
  rw [hz, Na.cellsS] at h1
  obtain ⟨s', e1, e2, _⟩ := DataW.trod_string Tryd.underlying9 h1
  have h2 : (Na.cs.map (fun s => (.lit (.string s.data.toList) : DataW H)))[j]? = (xs.map (·.1))[j]? := by rw [hx1]
  rw [List.getElem?_map, List.getElem?_map, hs, hz, e2] at h2
  simp only [Option.map_some, Option.some.injEq, DataW.lit.injEq, Lit.string.injEq] at h2
  have h3 : s = s' := ByteArray.ext (Array.ext' h2)
  rw [World.var?_cell Na.gConds hv j, h3]
  have h4 : cs.toList[j]? = some (.string s') := by
    have h5 : ((cs.toList.drop (j * 1)).take 1)[0]? = some (.string s') := by rw [e1]; rfl
    rw [List.getElem?_take, if_pos (by omega), List.getElem?_drop] at h5
    simpa using h5
  rw [← h4]
  simp
abbrev Na.laid1 : List (String × DataW Unit) := [("rivet/name.conditions", Rows.laid_rivet_name_conditions)]
abbrev Na.laid4 : List (String × DataW Unit) := [("math/bits.deBruijn32tab", Rows.laid_math_bits_deBruijn32tab), ("math/bits.deBruijn64tab", Rows.laid_math_bits_deBruijn64tab), ("internal/strconv.uint64pow10", Rows.laid_internal_strconv_uint64pow10), ("rivet/name.conditions", Rows.laid_rivet_name_conditions)]
theorem Na.met1 {W : World} (h : laidMetH Tryd.prog Na.laid1 W) : Na.Conds W := by
  rw [MakeChecks.laidMetH_plain _ _ _ (by kernel_rfl)] at h
  obtain ⟨ps, ⟨g0, t0, cs0, f0, p0, q0, hg0, ht0, hv0, hd0, _, _⟩, _, _⟩ := h
  obtain rfl := Option.some.inj (Na.gConds.symm.trans hg0)
  obtain rfl := Option.some.inj (Na.tConds.symm.trans ht0)
  exact Na.conds_of hv0 hd0
theorem Na.met4 {W : World} (h : laidMetH Tryd.prog Na.laid4 W) : Na.Conds W := by
  rw [MakeChecks.laidMetH_plain _ _ _ (by kernel_rfl)] at h
  obtain ⟨ps, ⟨g0, t0, cs0, f0, p0, q0, hg0, ht0, hv0, hd0, ⟨g1, t1, cs1, f1, p1, q1, hg1, ht1, hv1, hd1, ⟨g2, t2, cs2, f2, p2, q2, hg2, ht2, hv2, hd2, ⟨g3, t3, cs3, f3, p3, q3, hg3, ht3, hv3, hd3, _, _⟩, _⟩, _⟩, _⟩, _, _⟩ := h
  obtain rfl := Option.some.inj (Na.gConds.symm.trans hg3)
  obtain rfl := Option.some.inj (Na.tConds.symm.trans ht3)
  exact Na.conds_of hv3 hd3
theorem Na.door1 (os : Go.Os) (args : Array Value) : laidMetH Tryd.prog Na.laid1 ((World.doorLaid Tryd.prog 400 os).forCall (fun _ _ => 0) ⟨#[], args, []⟩).memory :=
  laidMetH_of_parts3 (fuel := 8) (laidMet_of_run' 8 (by kernel_rfl) (by kernel_rfl)) (by kernel_rfl) (by kernel_rfl)
theorem Na.door4 (os : Go.Os) (args : Array Value) : laidMetH Tryd.prog Na.laid4 ((World.doorLaid Tryd.prog 400 os).forCall (fun _ _ => 0) ⟨#[], args, []⟩).memory :=
  laidMetH_of_parts3 (fuel := 8) (laidMet_of_run' 8 (by kernel_rfl) (by kernel_rfl)) (by kernel_rfl) (by kernel_rfl)
end Go.Proofs.YtkkoihhkfophnaaDoor
