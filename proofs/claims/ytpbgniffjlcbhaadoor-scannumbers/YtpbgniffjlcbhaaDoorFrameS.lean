/-
  What a row lists of package-level variables, as the walks want it: strconv's two errors lie in their blocks; the heap that the program's own start leaves holds them.
-/
import Derived.Test.YtpbgniffjlcbhaaDoorSc4
import Derived.LaidMore
import Derived.LaidLaws
import Derived.OpenShut
import Derived.ProofKit
import Derived.Stop.Joined
import Derived.MakeChecks
namespace Go.Proofs.YtpbgniffjlcbhaaDoor
open Go.ChangeShapes Go.WideShapes Go.ChangeAt Go.RowKit
set_option linter.unusedVariables false
set_option linter.unusedSimpArgs false
set_option maxRecDepth 100000
theorem Bu.gSyn : Tryd.prog.globalNamed "strconv.ErrSyntax" = some 1 := by kernel_rfl
theorem Bu.gRng : Tryd.prog.globalNamed "strconv.ErrRange" = some 2 := by kernel_rfl
theorem Bu.tSyn : (Tryd.prog.globals[1]?).map (·.type) = some 49 := by kernel_rfl
theorem Bu.tRng : (Tryd.prog.globals[2]?).map (·.type) = some 49 := by kernel_rfl
abbrev Sc.laid5 : List (String × DataW Unit) := [("math/bits.deBruijn32tab", Rows.laid_math_bits_deBruijn32tab), ("math/bits.deBruijn64tab", Rows.laid_math_bits_deBruijn64tab), ("internal/strconv.uint64pow10", Rows.laid_internal_strconv_uint64pow10), ("strconv.ErrRange", Rows.laid_strconv_ErrRange), ("strconv.ErrSyntax", Rows.laid_strconv_ErrSyntax)]
theorem Sc.met5 {W : World} (h : laidMetH Tryd.prog Sc.laid5 W) : Sc.Errs W := by
  rw [MakeChecks.laidMetH_plain _ _ _ (by kernel_rfl)] at h
  obtain ⟨ps, ⟨g0, t0, cs0, f0, p0, q0, hg0, ht0, hv0, hd0, ⟨g1, t1, cs1, f1, p1, q1, hg1, ht1, hv1, hd1, ⟨g2, t2, cs2, f2, p2, q2, hg2, ht2, hv2, hd2, ⟨g3, t3, cs3, f3, p3, q3, hg3, ht3, hv3, hd3, ⟨g4, t4, cs4, f4, p4, q4, hg4, ht4, hv4, hd4, _, _⟩, _⟩, _⟩, _⟩, _⟩, _, _⟩ := h
  obtain rfl := Option.some.inj (Bu.gRng.symm.trans hg3)
  obtain rfl := Option.some.inj (Bu.tRng.symm.trans ht3)
  obtain rfl := Option.some.inj (Bu.gSyn.symm.trans hg4)
  obtain rfl := Option.some.inj (Bu.tSyn.symm.trans ht4)
  obtain ⟨_, u3, v3, e3, _, _⟩ := iface_of_trod Tryd.underlying49 hd3
  obtain ⟨_, u4, v4, e4, _, _⟩ := iface_of_trod Tryd.underlying49 hd4
  refine ⟨u4, v4, u3, v3, ?_, ?_⟩
  · rw [World.var?_cell Bu.gSyn hv4 0, ← Array.getElem?_toList, e4]; rfl
  · rw [World.var?_cell Bu.gRng hv3 0, ← Array.getElem?_toList, e3]; rfl
theorem Sc.door5 (os : Go.Os) (args : Array Value) : laidMetH Tryd.prog Sc.laid5 ((World.doorLaid Tryd.prog 400 os).forCall (fun _ _ => 0) ⟨#[], args, []⟩).memory :=
  laidMetH_of_parts3 (fuel := 8) (laidMet_of_run' 8 (by kernel_rfl) (by kernel_rfl)) (by kernel_rfl) (by kernel_rfl)
end Go.Proofs.YtpbgniffjlcbhaaDoor
