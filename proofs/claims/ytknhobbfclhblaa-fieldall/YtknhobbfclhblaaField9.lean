/-
  The walk of the law FieldAll.
-/
import Derived.Test.YtknhobbfclhblaaField8
namespace Go.Proofs.Ytknhobbfclhblaa
open Go.RowKit
set_option linter.unusedVariables false
theorem rget_k (x a n r : Int) (hr : F.get x a n = r) (hx : U32 x) (ha : I64 a) (hn : I64 n) {w0 w : World} (hK : Kept w0 w) :
    Calls Try.prog 10 #[.int .u32 x, .int .i64 a, .int .i64 n] w fun e w' => e = .returned (.int .u32 r) ∧ Kept w0 w' := by
  subst hr; exact (rget_any x a n hx.1 hx.2 ha.1 ha.2 hn.2 w).mono fun _ _ ⟨h, k⟩ => ⟨h, k ▸ hK⟩
theorem rset_k (y a n x r : Int) (hr : F.set y a n x = r) (hy : U32 y) (hx : U32 x) (ha : I64 a) (hn : I64 n) {w0 w : World} (hK : Kept w0 w) :
    Calls Try.prog 12 #[.int .u32 y, .int .i64 a, .int .i64 n, .int .u32 x] w fun e w' => e = .returned (.int .u32 r) ∧ Kept w0 w' := by
  subst hr; exact (rset_any y a n x hy.1 hy.2 hx.1 hx.2 ha.1 ha.2 hn.2 w).mono fun _ _ ⟨h, k⟩ => ⟨h, k ▸ hK⟩
theorem sgn_k (x n r : Int) (hr : F.sgnd x (F.clamp n) = r) (hx : U32 x) {w0 w : World} (hK : Kept w0 w) :
    Calls Try.prog 13 #[.int .u32 x, .int .i64 n] w fun e w' => e = .returned (.int .i64 r) ∧ Kept w0 w' := by
  subst hr; exact (fsigned_any x n hx.1 hx.2 w).mono fun _ _ ⟨h, k⟩ => ⟨h, k ▸ hK⟩
theorem rsgn_k (x n r : Int) (hr : F.sgnd x (F.clamp n) = r) (hx : U32 x) {w0 w : World} (hK : Kept w0 w) :
    Calls Try.prog 14 #[.int .u32 x, .int .i64 n] w fun e w' => e = .returned (.int .i64 r) ∧ Kept w0 w' := by
  subst hr; exact (rsgnd_any x n hx.1 hx.2 w).mono fun _ _ ⟨h, k⟩ => ⟨h, k ▸ hK⟩
theorem fits_k (v n : Int) (r : Bool) (hr : F.fitsK v (F.clamp n) = r) {w0 w : World} (hK : Kept w0 w) :
    Calls Try.prog 15 #[.int .i64 v, .int .i64 n] w fun e w' => e = .returned (.bool r) ∧ Kept w0 w' := by
  subst hr; exact (fits_any v n w).mono fun _ _ ⟨h, k⟩ => ⟨h, k ▸ hK⟩
theorem rfits_k (v n : Int) (r : Bool) (hr : F.fitsK v (F.clamp n) = r) {w0 w : World} (hK : Kept w0 w) :
    Calls Try.prog 16 #[.int .i64 v, .int .i64 n] w fun e w' => e = .returned (.bool r) ∧ Kept w0 w' := by
  subst hr; exact (rfits_any v n w).mono fun _ _ ⟨h, k⟩ => ⟨h, k ▸ hK⟩
set_option maxRecDepth 100000 in
set_option maxHeartbeats 2000000 in
theorem walk_FAll (x y a n v : Int) (hx : U32 x) (hy : U32 y) (ha : I64 a) (hn : I64 n) (w : World) :
    Calls Try.prog 3 #[.int .u32 x, .int .u32 y, .agg #[.int .i64 a, .int .i64 n, .int .i64 v]] w fun e w' => e = .returned (.bool true) ∧ Grown w w' := by
  obtain ⟨g, hg⟩ : ∃ g, F.get x a n = g := ⟨_, rfl⟩
  obtain ⟨s, hs⟩ : ∃ g, F.set x a n y = g := ⟨_, rfl⟩
  obtain ⟨q, hq⟩ : ∃ g, F.sgnd y (F.clamp n) = g := ⟨_, rfl⟩
  obtain ⟨f, hf⟩ : ∃ g, F.fitsK v (F.clamp n) = g := ⟨_, rfl⟩
  have Hg := Lib.hid hg
  have Hs := Lib.hid hs
  have Hq := Lib.hid hq
  have Hf := Lib.hid hf
  clear hg hs hq hf
  have HC := Lib.hid (fun (w1 : World) (h : Kept (w.alloc (.cells #[.int .i64 a, .int .i64 n, .int .i64 v] 23)) w1) =>
    (show (w1.cell? ⟨w.heap.size, 0, none⟩ = some (.int .i64 a) ∧ w1.cell? ⟨w.heap.size, 1, none⟩ = some (.int .i64 n) ∧ w1.cell? ⟨w.heap.size, 2, none⟩ = some (.int .i64 v)) from
      ⟨(h.cell (by simp)).trans (by simp), (h.cell (by simp)).trans (by simp), (h.cell (by simp)).trans (by simp)⟩))
  have HB := Lib.hid ((Kept.refl w).alloc #[.int .i64 a, .int .i64 n, .int .i64 v] 23)
  go_enter Try.func3, Try.ntmps3
  go_wp2_with fail
  refine (fshown_any _).mono ?_; rintro e w1 ⟨rfl, hK⟩
  generalize (w.alloc (.cells #[.int .i64 a, .int .i64 n, .int .i64 v] 23)) = wB at hK HC HB
  go_wp2_with fail
  go_region_held3 (fun w' => w'.cell? ⟨w.heap.size, 0, none⟩ = some (.int .i64 a) ∧ w'.cell? ⟨w.heap.size, 1, none⟩ = some (.int .i64 n) ∧ w'.cell? ⟨w.heap.size, 2, none⟩ = some (.int .i64 v))
    (first | exact HC.out _ (by assumption) | exact HC.out _ (Kept.drew (by assumption)))
    (first
      | (go_at_call 9; refine (get_k _ _ _ _ Hg.out hx ha hn (w0 := wB) (by first | assumption | exact Kept.drew (by assumption))).mono ?_; rintro e w5 ⟨rfl, hK5⟩)
      | (go_at_call 10; refine (rget_k _ _ _ _ Hg.out hx ha hn (w0 := wB) (by first | assumption | exact Kept.drew (by assumption))).mono ?_; rintro e w5 ⟨rfl, hK5⟩)
      | (go_at_call 11; refine (set_k _ _ _ _ _ Hs.out hx hy ha hn (w0 := wB) (by first | assumption | exact Kept.drew (by assumption))).mono ?_; rintro e w5 ⟨rfl, hK5⟩)
      | (go_at_call 12; refine (rset_k _ _ _ _ _ Hs.out hx hy ha hn (w0 := wB) (by first | assumption | exact Kept.drew (by assumption))).mono ?_; rintro e w5 ⟨rfl, hK5⟩)
      | (go_at_call 13; refine (sgn_k _ _ _ Hq.out hy (w0 := wB) (by first | assumption | exact Kept.drew (by assumption))).mono ?_; rintro e w5 ⟨rfl, hK5⟩)
      | (go_at_call 14; refine (rsgn_k _ _ _ Hq.out hy (w0 := wB) (by first | assumption | exact Kept.drew (by assumption))).mono ?_; rintro e w5 ⟨rfl, hK5⟩)
      | (go_at_call 15; refine (fits_k _ _ _ Hf.out (w0 := wB) (by first | assumption | exact Kept.drew (by assumption))).mono ?_; rintro e w5 ⟨rfl, hK5⟩)
      | (go_at_call 16; refine (rfits_k _ _ _ Hf.out (w0 := wB) (by first | assumption | exact Kept.drew (by assumption))).mono ?_; rintro e w5 ⟨rfl, hK5⟩))
  go_wp2_with fail
  go_ret
  exact yes rfl (HB.out.trans (by assumption)).grown
end Go.Proofs.Ytknhobbfclhblaa
