/-
  Joined: ObV, Lo6, Lo7, Lo8, Frame6.
-/
import Derived.WideShapes
import Derived.OpenShut
import Derived.Test.YtpfgmfiegnkocaaObQ
import Derived.Test.YtpfgmfiegnkocaaLo5
import Derived.Test.YtpfgmfiegnkocaaM02
import Derived.Test.YtpfgmfiegnkocaaM13
/-
  An object of the call's own in a block: what stores and appends do to it.
-/
namespace Go.Proofs.Ytpfgmfiegnkocaa
open Go.RowKit
set_option linter.unusedVariables false
set_option linter.unusedSimpArgs false
set_option maxRecDepth 100000
set_option maxRecDepth 100000
theorem Ow.len' {e : TypeId} {k : IntKind} {base g n c : Nat} {xs : List Int} {w : World} (h : Ow e k base g n c xs w) : xs.length = n := h.has.2.2.2.1
/-- the block O is an object of the words W, the sites S and the names Y, all of the call's own since base -/
structure Ob.Own (base O : Nat) (A : Option Addr) (n c : Nat) (B : Option Addr) (m d : Nat) (C : Option Addr) (k e : Nat) (W S : List Int) (Y : List Ob.Y) (w : World) : Prop where
  hG : Has O #[.slice A n c, .slice B m d, .slice C k e] 26 w
  hP : On 39 .u32 base A n c W w
  hQ : On 3 .i64 base B m d S w
  hY : Os 69 base C k e Y w
  hO : base ≤ O
section
variable {base O : Nat} {A B C : Option Addr} {n c m d k e : Nat} {W S : List Int} {Y : List Ob.Y} {w w' : World}
theorem Ob.Own.below (h : Ob.Own base O A n c B m d C k e W S Y w) (hb : Below w.heap.size w w') : Ob.Own base O A n c B m d C k e W S Y w' :=
  ⟨h.hG.below hb, h.hP.below hb, h.hQ.below hb, h.hY.below hb, h.hO⟩
theorem Ob.Own.drew (h : Ob.Own base O A n c B m d C k e W S Y w) : Ob.Own base O A n c B m d C k e W S Y w.drew := ⟨h.hG.drew, h.hP, h.hQ, h.hY.drew, h.hO⟩
theorem Ob.Own.wo (h : Ob.Own base O A n c B m d C k e W S Y w) (hr : ∀ x ∈ W, 0 ≤ x ∧ x < 4294967296) : Wo w A n c W := h.hP.rg.rw hr
theorem Ob.Own.in (h : Ob.Own base O A n c B m d C k e W S Y w) : In w B m d S := h.hQ.rg
theorem Ob.Own.sy (h : Ob.Own base O A n c B m d C k e W S Y w) : Sy w C k e Y := h.hY.sy
theorem Ob.Own.low (h : Ob.Own base O A n c B m d C k e W S Y w) : base ≤ w.heap.size := Nat.le_trans h.hO (Nat.le_of_lt h.hG.lt)
/-- a word is stored -/
theorem Ob.Own.word {g : Nat} (h : Ob.Own base O (some ⟨g, 0, none⟩) n c B m d C k e W S Y w) (j : Nat) (x : Int) : Ob.Own base O (some ⟨g, 0, none⟩) n c B m d C k e (W.set j x) S Y (w.setCell ⟨g, j, none⟩ (.int .u32 x)) := by
  have hP : Ow 39 .u32 base g n c W w := h.hP
  have h1 := h.hP.ne h.hG (by decide) g rfl
  obtain ⟨_, _, _, _, cur, hh, _⟩ := hP.has
  exact ⟨h.hG.other (fun e => h1 e.symm) _, (hP.set j x).on, h.hQ.other hh (by decide) j _, h.hY.other hh (by decide) j _, h.hO⟩
/-- a name's cell is stored -/
theorem Ob.Own.name {g : Nat} (h : Ob.Own base O A n c B m d (some ⟨g, 0, none⟩) k e W S Y w) (j : Nat) (hj : j < k) (s : ByteArray) : Ob.Own base O A n c B m d (some ⟨g, 0, none⟩) k e W S (Y.set j (s, Ob.pl Y j)) (w.setCell ⟨g, j * 2, none⟩ (.string s)) := by
  have h1 := h.hY.ne h.hG (by decide) g rfl
  obtain ⟨_, _, _, _, cur, hh, _⟩ := h.hY.has
  exact ⟨h.hG.other (fun e => h1 e.symm) _, h.hP.other hh (by decide) _ _, h.hQ.other hh (by decide) _ _, h.hY.set1 j hj s, h.hO⟩
theorem Ob.Own.place {g : Nat} (h : Ob.Own base O A n c B m d (some ⟨g, 0, none⟩) k e W S Y w) (j : Nat) (hj : j < k) (a : Int) : Ob.Own base O A n c B m d (some ⟨g, 0, none⟩) k e W S (Y.set j (Ob.nm Y j, a)) (w.setCell ⟨g, j * 2 + 1, none⟩ (.int .i64 a)) := by
  have h1 := h.hY.ne h.hG (by decide) g rfl
  obtain ⟨_, _, _, _, cur, hh, _⟩ := h.hY.has
  exact ⟨h.hG.other (fun e => h1 e.symm) _, h.hP.other hh (by decide) _ _, h.hQ.other hh (by decide) _ _, h.hY.set2 j hj a, h.hO⟩
/-- a row of it is stored -/
theorem Ob.Own.row0 (h : Ob.Own base O A n c B m d C k e W S Y w) {A' : Option Addr} {n' c' : Nat} {W' : List Int} (hN : On 39 .u32 base A' n' c' W' w) : Ob.Own base O A' n' c' B m d C k e W' S Y (w.setCell ⟨O, 0, none⟩ (.slice A' n' c')) :=
  ⟨h.hG.set 0 _, hN.other h.hG (by decide) 0 _, h.hQ.other h.hG (by decide) 0 _, h.hY.other h.hG (by decide) 0 _, h.hO⟩
theorem Ob.Own.row1 (h : Ob.Own base O A n c B m d C k e W S Y w) {B' : Option Addr} {m' d' : Nat} {S' : List Int} (hN : On 3 .i64 base B' m' d' S' w) : Ob.Own base O A n c B' m' d' C k e W S' Y (w.setCell ⟨O, 1, none⟩ (.slice B' m' d')) :=
  ⟨h.hG.set 1 _, h.hP.other h.hG (by decide) 1 _, hN.other h.hG (by decide) 1 _, h.hY.other h.hG (by decide) 1 _, h.hO⟩
theorem Ob.Own.row2 (h : Ob.Own base O A n c B m d C k e W S Y w) {C' : Option Addr} {k' e' : Nat} {Y' : List Ob.Y} (hN : Os 69 base C' k' e' Y' w) : Ob.Own base O A n c B m d C' k' e' W S Y' (w.setCell ⟨O, 2, none⟩ (.slice C' k' e')) :=
  ⟨h.hG.set 2 _, h.hP.other h.hG (by decide) 2 _, h.hQ.other h.hG (by decide) 2 _, hN.other h.hG (by decide) 2 _, h.hO⟩
/-- behind an append to the one row: the others, and the block -/
theorem On.grown {e' : TypeId} {kk : IntKind} {base' base'' nn cc : Nat} {AA : Option Addr} {xs : List Int} {row : Option Nat} (h : On e' kk base' AA nn cc xs w) (hg : w.grownBy w' row) (hr : ∀ q, row = some q → ∀ p, (Value.slice AA nn cc).ownBlock = some p → q ≠ p) : On e' kk base' AA nn cc xs w' := by
  rcases h.cases with ⟨rfl, rfl, rfl, rfl⟩ | ⟨g, rfl, h⟩
  · exact On.none _ _ _ _
  · have h : Ow e' kk base' g nn cc xs w := h
    obtain ⟨h1, h2, h3, h4, cur, h5, h6, h7⟩ := h.has
    exact (Ow.mk' h1 h2 h3 h4 cur (h5.grown hg (fun q hq => hr q hq g rfl)) h6 h7).on
theorem Os.grown {e' : TypeId} {base' nn cc : Nat} {AA : Option Addr} {ys : List Ob.Y} {row : Option Nat} (h : Os e' base' AA nn cc ys w) (hg : w.grownBy w' row) (hr : ∀ q, row = some q → ∀ p, (Value.slice AA nn cc).ownBlock = some p → q ≠ p) : Os e' base' AA nn cc ys w' := by
  rcases h.cases with ⟨rfl, rfl, rfl, rfl⟩ | ⟨g, rfl, h⟩
  · exact Os.none _ _ _
  · obtain ⟨h1, h2, h3, h4, cur, h5, h6, h7⟩ := h.has
    exact Os.mk' h1 h2 h3 h4 cur (h5.grown hg (fun q hq => hr q hq g rfl)) h6 h7
/-- two rows of unlike kinds have unlike blocks -/
theorem On.unlike {e1 e2 : TypeId} {k1 k2 : IntKind} {b1 b2 n1 n2 c1 c2 : Nat} {A1 A2 : Option Addr} {x1 x2 : List Int} (h : On e1 k1 b1 A1 n1 c1 x1 w) (h' : On e2 k2 b2 A2 n2 c2 x2 w) (he : e1 ≠ e2) : ∀ q, (Value.slice A1 n1 c1).ownBlock = some q → ∀ p, (Value.slice A2 n2 c2).ownBlock = some p → q ≠ p := fun q hq p hp => by
  rcases h'.cases with ⟨rfl, _⟩ | ⟨g, rfl, h'⟩
  · cases hp
  · cases hp
    have h' : Ow e2 k2 b2 g n2 c2 x2 w := h'
    obtain ⟨_, _, _, _, cur, hh, _⟩ := h'.has
    exact h.ne hh (fun e => he e.symm) q hq
theorem On.unlikeS {e1 e2 : TypeId} {k1 : IntKind} {b1 b2 n1 n2 c1 c2 : Nat} {A1 A2 : Option Addr} {x1 : List Int} {x2 : List Ob.Y} (h : On e1 k1 b1 A1 n1 c1 x1 w) (h' : Os e2 b2 A2 n2 c2 x2 w) (he : e1 ≠ e2) : ∀ q, (Value.slice A1 n1 c1).ownBlock = some q → ∀ p, (Value.slice A2 n2 c2).ownBlock = some p → q ≠ p := fun q hq p hp => by
  rcases h'.cases with ⟨rfl, _⟩ | ⟨g, rfl, h'⟩
  · cases hp
  · cases hp
    obtain ⟨_, _, _, _, cur, hh, _⟩ := h'.has
    exact h.ne hh (fun e => he e.symm) q hq
theorem Ob.Own.grow0 (h : Ob.Own base O A n c B m d C k e W S Y w) (hg : w.grownBy w' (Value.slice A n c).ownBlock) {A' : Option Addr} {n' c' : Nat} {W' : List Int} (hN : On 39 .u32 base A' n' c' W' w') : Ob.Own base O A' n' c' B m d C k e W' S Y (w'.setCell ⟨O, 0, none⟩ (.slice A' n' c')) := by
  have hG := h.hG.grown hg (h.hP.ne h.hG (by decide))
  exact ⟨hG.set 0 _, hN.other hG (by decide) 0 _, (h.hQ.grown (base'' := base) hg (h.hP.unlike h.hQ (by decide))).other hG (by decide) 0 _, (h.hY.grown hg (h.hP.unlikeS h.hY (by decide))).other hG (by decide) 0 _, h.hO⟩
theorem Ob.Own.grow1 (h : Ob.Own base O A n c B m d C k e W S Y w) (hg : w.grownBy w' (Value.slice B m d).ownBlock) {B' : Option Addr} {m' d' : Nat} {S' : List Int} (hN : On 3 .i64 base B' m' d' S' w') : Ob.Own base O A n c B' m' d' C k e W S' Y (w'.setCell ⟨O, 1, none⟩ (.slice B' m' d')) := by
  have hG := h.hG.grown hg (h.hQ.ne h.hG (by decide))
  exact ⟨hG.set 1 _, (h.hP.grown (base'' := base) hg (h.hQ.unlike h.hP (by decide))).other hG (by decide) 1 _, hN.other hG (by decide) 1 _, (h.hY.grown hg (h.hQ.unlikeS h.hY (by decide))).other hG (by decide) 1 _, h.hO⟩
theorem Ob.Own.grow2 (h : Ob.Own base O A n c B m d C k e W S Y w) (hg : w.grownBy w' (Value.slice C k e).ownBlock) {C' : Option Addr} {k' e' : Nat} {Y' : List Ob.Y} (hN : Os 69 base C' k' e' Y' w') : Ob.Own base O A n c B m d C' k' e' W S Y' (w'.setCell ⟨O, 2, none⟩ (.slice C' k' e')) := by
  have hG := h.hG.grown hg (h.hY.ne h.hG (by decide))
  exact ⟨hG.set 2 _, (h.hP.grown (base'' := base) hg (fun q hq p hp e => h.hP.unlikeS h.hY (by decide) p hp q hq e.symm)).other hG (by decide) 2 _, (h.hQ.grown (base'' := base) hg (fun q hq p hp e => h.hQ.unlikeS h.hY (by decide) p hp q hq e.symm)).other hG (by decide) 2 _, hN.other hG (by decide) 2 _, h.hO⟩
end
end Go.Proofs.Ytpfgmfiegnkocaa
/-
  What the laws of package load stand on: the document's example.
-/
namespace Go.Proofs.Ytpfgmfiegnkocaa
open Go.RowKit
set_option linter.unusedVariables false
set_option linter.unusedSimpArgs false
set_option maxRecDepth 100000
theorem Lo.ex1 : Lo.iE [4, 7] [0] [] 8 = 0 := by decide +kernel
theorem Lo.ex2 : Lo.iW [4, 7] [0] [] 8 = [12, 7] := by decide +kernel
theorem Lo.ex3 : (Lo.regs 8 2).r 13 = 8 := by decide +kernel
set_option maxRecDepth 100000 in
theorem Lo.shown_any (w : World) : Calls Try.prog 7 #[] w fun e w' => e = .returned (.bool true) ∧ Below w.heap.size w w' := by
  have hA1 := (((Kept.refl w).alloc #[.int .u32 4, .int .u32 7] 39).alloc #[.int .i64 0] 3).below
  have hX := Lib.hid (((Rg.two ((Has.new #[.int .u32 4, .int .u32 7] 39 w).alloc (.cells #[.int .i64 0] 3))).rw (L := 4294967296) (by simp) : Wo _ _ _ _ _))
  have hS := Lib.hid (Rg.one (Has.new1 #[.int .i64 0] 3 w (.cells #[.int .u32 4, .int .u32 7] 39)))
  go_enter Try.func7, Try.ntmps7
  go_wp2_with (fail)
  generalize (w.alloc (.cells #[.int .u32 4, .int .u32 7] 39)).alloc (.cells #[.int .i64 0] 3) = w1 at *
  refine (Lo.image_any hX.out hS.out (Sy.empty w1) (by simp) 8).mono ?_; rintro e w2 ⟨A2, n2, c2, rfl, hP, hE⟩
  rw [Lo.ex1]
  rw [Lo.ex2] at hP
  have hB := hA1.trans (hE.mono hA1.size)
  clear hX hS hA1 hE
  have hA := ((Kept.refl w2).alloc #[.int .u32 12, .int .u32 7] 39).below
  have hP2 := Lib.hid (hP.rg.below hA)
  have hL := Lib.hid (Rg.two (Has.new #[.int .u32 12, .int .u32 7] 39 w2))
  replace hB := Lib.hid (hB.trans (hA.mono hB.size))
  clear hP hA
  go_wp2_with (fail)
  generalize w2.alloc (.cells #[.int .u32 12, .int .u32 7] 39) = w3 at *
  refine (Ch.same5_any hP2.out hL.out).mono ?_; rintro e w4 ⟨rfl, hE⟩
  rw [decide_eq_true rfl]
  replace hB := Lib.hid (hB.out.trans (hE.mono hB.out.size))
  clear hP2 hL hE
  go_wp2_with (fail)
  refine (Lo.regs_any 8 2 w4).mono ?_; rintro e w5 ⟨rfl, hK⟩
  replace hB := Lib.hid (hB.out.trans (hK.below.mono hB.out.size))
  clear hK
  have hf := A.field_R (Lo.regs 8 2)
  have hi : ∀ W, (Instr.index 40 (.agg ((A.cells (Lo.regs 8 2)).extract 0 16)) (.int .i64 13)).run Try.prog W = .ok (.int .u32 8) W := fun W => by have h := A.index_R (Lo.regs 8 2) 13 (by omega) W; rw [Lo.ex3] at h; exact h
  generalize Lo.regs 8 2 = s5 at *
  generalize (A.cells s5).extract 0 16 = c5 at *
  go_wp2
  go_ret
  exact ⟨rfl, hB.out⟩
end Go.Proofs.Ytpfgmfiegnkocaa
/-
  What the laws of package load stand on: no sites.
-/
namespace Go.Proofs.Ytpfgmfiegnkocaa
open Go.RowKit
set_option linter.unusedVariables false
set_option linter.unusedSimpArgs false
set_option maxRecDepth 100000
theorem Lo.nilS (w : World) : In w none 0 0 [] := Rg.empty _ _
theorem Lo.and31 (n : Int) : ∃ a : Nat, bits .and .i64 n 31 = a ∧ a < 32 := by
  have h : (BitVec.ofInt 64 31).toNat = 2 ^ 5 - 1 := by decide
  have key : (BitVec.ofInt 64 n &&& BitVec.ofInt 64 31).toNat = (n % ((2 ^ 64 : Nat) : Int)).toNat % 2 ^ 5 := by
    rw [BitVec.toNat_and, BitVec.toNat_ofInt, h, Nat.and_two_pow_sub_one_eq_mod]
  refine ⟨(n % ((2 ^ 64 : Nat) : Int)).toNat % 2 ^ 5, ?_, Nat.mod_lt _ (by decide)⟩
  show IntKind.i64.wrap ((BitVec.ofInt 64 n &&& BitVec.ofInt 64 31).toNat : Nat) = _
  rw [key, IntKind.wrap_i64]
  omega
theorem Lo.and15 (n : Int) : ∃ a : Nat, bits .and .i64 n 15 = a ∧ a < 16 := by
  have h : (BitVec.ofInt 64 15).toNat = 2 ^ 4 - 1 := by decide
  have key : (BitVec.ofInt 64 n &&& BitVec.ofInt 64 15).toNat = (n % ((2 ^ 64 : Nat) : Int)).toNat % 2 ^ 4 := by
    rw [BitVec.toNat_and, BitVec.toNat_ofInt, h, Nat.and_two_pow_sub_one_eq_mod]
  refine ⟨(n % ((2 ^ 64 : Nat) : Int)).toNat % 2 ^ 4, ?_, Nat.mod_lt _ (by decide)⟩
  show IntKind.i64.wrap ((BitVec.ofInt 64 n &&& BitVec.ofInt 64 15).toNat : Nat) = _
  rw [key, IntKind.wrap_i64]
  omega
theorem Lo.words_live {w0 : World} {B : Nat} {x : X.St} {w : World} (h : Live w0 B x w) :
    Calls Try.prog 16 #[.pointer (some ⟨B, 0, none⟩)] w fun e w' => ∃ g, e = .returned (.slice (some ⟨g, 0, none⟩) x.ws.length x.ws.length) ∧ Wo w' (some ⟨g, 0, none⟩) x.ws.length x.ws.length x.ws ∧ Kept w w' := by
  obtain ⟨F, h1⟩ := h.mac
  exact (words_any h1).mono fun e w' ⟨g, q1, q2, q3, q4⟩ => ⟨g, q1, q3.rw, q4⟩
theorem Lo.status_live {w0 : World} {B : Nat} {x : X.St} {w : World} (h : Live w0 B x w) :
    Calls Try.prog 20 #[.pointer (some ⟨B, 0, none⟩)] w fun e w' => e = .returned (.int .i64 x.st) ∧ w = w' := by
  obtain ⟨F, h1⟩ := h.mac; exact status_any h1
theorem Lo.st_ok {W S : List Int} {b m : Int} : (Lo.st W S b m []).st = 0 ∧ (Lo.st W S b m []).outs = [] := ⟨rfl, rfl⟩
/-- the site that is next, from a number on -/
structure Lo.Next (S : List Int) (n t : Nat) : Prop where
  le : t ≤ S.length
  lo : ∀ j, j < t → S.getD j 0 < (n : Int)
  hi : ∀ j, t ≤ j → j < S.length → (n : Int) ≤ S.getD j 0
theorem Lo.Next.zero {m : Nat} {S : List Int} (h : Ch.Rises m S) : Lo.Next S 0 0 :=
  ⟨Nat.zero_le _, fun j hj => by omega, fun j _ hj => by have := Ch.at_ge h j hj; omega⟩
theorem Lo.mem_getD {S : List Int} {x : Int} : x ∈ S ↔ ∃ j, j < S.length ∧ S.getD j 0 = x := by
  constructor
  · intro h
    obtain ⟨j, hj, e⟩ := List.getElem_of_mem h
    exact ⟨j, hj, by rw [List.getD_eq_getElem?_getD, List.getElem?_eq_getElem hj]; exact e⟩
  · rintro ⟨j, hj, e⟩
    rw [List.getD_eq_getElem?_getD, List.getElem?_eq_getElem hj] at e
    exact e ▸ List.getElem_mem hj
theorem Lo.Next.yes {m : Nat} {S : List Int} {n t : Nat} (h : Lo.Next S n t) (hR : Ch.Rises m S) (ht : t < S.length) (e : S.getD t 0 = (n : Int)) : (n : Int) ∈ S ∧ Lo.Next S (n + 1) (t + 1) :=
  ⟨Lo.mem_getD.2 ⟨t, ht, e⟩, by omega, fun j hj => by
    rcases Nat.lt_or_ge j t with q | q
    · have := h.lo j q; omega
    · rw [show j = t by omega, e]; omega, fun j hj hl => by
    have := Ch.mono hR t j (by omega) hl; omega⟩
theorem Lo.Next.no {S : List Int} {n t : Nat} (h : Lo.Next S n t) {m : Nat} (hR : Ch.Rises m S) (e : ¬ (t < S.length ∧ S.getD t 0 = (n : Int))) : ¬ (n : Int) ∈ S ∧ Lo.Next S (n + 1) t := by
  constructor
  · intro q
    obtain ⟨j, hj, ej⟩ := Lo.mem_getD.1 q
    rcases Nat.lt_or_ge j t with c | c
    · have := h.lo j c; omega
    · have c1 := h.hi t (Nat.le_refl _) (by omega)
      by_cases c2 : j = t
      · subst c2; exact e ⟨hj, ej⟩
      · have := Ch.mono hR t j (by omega) hj; omega
  · refine ⟨h.le, fun j hj => by have := h.lo j hj; omega, fun j hj hl => ?_⟩
    have c1 := h.hi t (Nat.le_refl _) (by omega)
    have c3 : ¬ S.getD t 0 = (n : Int) := fun q => e ⟨by omega, q⟩
    by_cases c2 : j = t
    · subst c2; omega
    · have := Ch.mono hR t j (by omega) hl; omega
theorem Lo.img_get {S : List Int} {b : Int} {W : List Int} {n : Nat} (hn : n < W.length) : (Lo.img S b 0 W).getD n 0 = if (n : Int) ∈ S then (W.getD n 0 + b) % 4294967296 else W.getD n 0 := by
  rw [List.getD_eq_getElem?_getD, Lo.img_at, Nat.zero_add, List.getD_eq_getElem?_getD, List.getElem?_eq_getElem hn]
  rfl
end Go.Proofs.Ytpfgmfiegnkocaa
/-
  Registers out of the middle of a block, and their !=; the document's machine beside the program's.
-/
namespace Go.Proofs.Ytpfgmfiegnkocaa
open Go.RowKit
set_option linter.unusedVariables false
set_option linter.unusedSimpArgs false
set_option maxRecDepth 100000
theorem Lo.exec_mid {P : Program} {o : Oper} {a : Act} {w : World} (ty : TypeId) (x : Operand) (ho : o.op = .load ty x) (b off : Nat) (hx : a.eval x = .pointer (some ⟨b, off, none⟩)) (cs : Array Value) {d : TypeDesc} (hc : w.rangeAt b off cs.toList)
    (hu : P.underlying ty = some d) (hd : d.isRow = true) (hi : (P.info? ty).map (·.size) = some cs.size) : (execOp a.eval o).run P w = .ok (.value (.agg cs)) w := by
  have := run_loadVar_mid (P := P) w b off ty cs.toList d hc hu hd (by simpa using hi)
  unfold execOp
  simp only [ho, hx, Instr.loadAt, Instr.sureAddr, Sem.run_bind, Sem.run_pure, Result.andThen_ok, this, Array.toArray_toList]
theorem Lo.exec_neq {o : Oper} {a : Act} {w : World} (x y : Operand) (ho : o.op = .binOp .neq 42 x y 42) (s : A.Regs) (hx : a.eval x = .agg (A.cells s)) (hy : a.eval y = .agg (A.cells s)) :
    (execOp a.eval o).run Try.prog w = .ok (.value (.bool false)) w := by
  have e : binOp BinOp.neq 42 (.agg (A.cells s)) (.agg (A.cells s)) = (do pure (.bool (!(← Op.equal 42 (.agg (A.cells s)) (.agg (A.cells s)))))) := by simp only [binOp]
  unfold execOp
  simp only [ho, hx, hy, Sem.run_bind]
  rw [run_eqGuard_agg w BinOp.neq 42 x y (A.cells s) (A.cells s) (by kernel_rfl)]
  simp only [Result.andThen_ok, e, Sem.run_bind, A.eq_regs, Sem.run_pure]
  rfl
theorem Lo.keepR {F : Nat → Prop} {E : Nat} {x : X.St} {D C : Nat} {ai : Option Addr} {ni ci : Nat} {ao : Option Addr} {no co : Nat} {w w' : World} (h : RMacAt F E x D C ai ni ci ao no co w) (hb : Below w.heap.size w w') : RMacAt F E x D C ai ni ci ao no co w' := h.turn (Lo.t0 hb) fun _ _ h => h
theorem Lo.words_mac {F : Nat → Prop} {B : Nat} {x : X.St} {w : World} (h : Mac F B x w) :
    Calls Try.prog 16 #[.pointer (some ⟨B, 0, none⟩)] w fun e w' => ∃ g, e = .returned (.slice (some ⟨g, 0, none⟩) x.ws.length x.ws.length) ∧ Wo w' (some ⟨g, 0, none⟩) x.ws.length x.ws.length x.ws ∧ Kept w w' :=
  (words_any h).mono fun e w' ⟨g, q1, q2, q3, q4⟩ => ⟨g, q1, q3.rw, q4⟩
end Go.Proofs.Ytpfgmfiegnkocaa
/-
  Registers out of their cells.
-/
namespace Go.Proofs.Ytpfgmfiegnkocaa
open Go.ChangeShapes Go.WideShapes Go.RowKit
set_option linter.unusedVariables false
set_option linter.unusedSimpArgs false
set_option maxRecDepth 100000
def A.of (l : List Int) (h : Int) (n z c v : Bool) : A.Regs := ⟨fun j => l.getD j 0, h, n, z, c, v⟩
theorem A.word {a : Int} (w : (Lit.int .u32 a).wf = true) : 0 ≤ a ∧ a < 4294967296 := by have := bounds_u32 w; omega
/-- the shape of registers, and of how a machine is set up -/
def regsSh : Sh := .cons (.rep 16 (.int .u32)) (.cons (.int .u32) (.cons .bool (.cons .bool (.cons .bool (.cons .bool .nil)))))
def setSh : Sh := .cons regsSh (.cons (.int .u32) (.cons (.sl (.int .u32)) .nil))
theorem sees_rep {w : World} {cs : List Value} (h : Sees w (.rep 16 (.int .u32)) cs) : ∃ l : List Int, l.length = 16 ∧ cs = l.map (Value.int .u32) ∧ ∀ x ∈ l, 0 ≤ x ∧ x < 4294967296 := by
  obtain ⟨hl, h⟩ := h
  have hl : cs.length = 16 := hl
  have h1 : ∀ i : Nat, ∃ a : Int, i < 16 → cs[i]? = some (.int .u32 a) ∧ 0 ≤ a ∧ a < 4294967296 := by
    intro i
    by_cases hi : i < 16
    · obtain ⟨a, ha, hw⟩ := h i hi
      have ha : (cs.drop (i * 1)).take 1 = [.int .u32 a] := ha
      rw [Nat.mul_one] at ha
      refine ⟨a, fun _ => ⟨?_, A.word hw⟩⟩
      have : ((cs.drop i).take 1)[0]? = some (.int .u32 a) := by rw [ha]; rfl
      rw [List.getElem?_take, if_pos (by omega), List.getElem?_drop, Nat.add_zero] at this
      exact this
    · exact ⟨0, fun h => absurd h hi⟩
  refine ⟨(List.range 16).map fun i => Classical.choose (h1 i), by simp, ?_, ?_⟩
  · apply List.ext_getElem?
    intro i
    by_cases hi : i < 16
    · rw [(Classical.choose_spec (h1 i) hi).1, List.getElem?_map, List.getElem?_map, List.getElem?_range hi]; rfl
    · rw [List.getElem?_eq_none (by omega), List.getElem?_eq_none (by simp; omega)]
  · intro x hx
    obtain ⟨i, hi, rfl⟩ := List.mem_map.1 hx
    exact (Classical.choose_spec (h1 i) (by simpa using hi)).2
theorem list16 (l : List Int) (h : l.length = 16) : l.map (Value.int .u32) = [.int .u32 (l.getD 0 0), .int .u32 (l.getD 1 0), .int .u32 (l.getD 2 0), .int .u32 (l.getD 3 0), .int .u32 (l.getD 4 0), .int .u32 (l.getD 5 0), .int .u32 (l.getD 6 0), .int .u32 (l.getD 7 0), .int .u32 (l.getD 8 0), .int .u32 (l.getD 9 0), .int .u32 (l.getD 10 0), .int .u32 (l.getD 11 0), .int .u32 (l.getD 12 0), .int .u32 (l.getD 13 0), .int .u32 (l.getD 14 0), .int .u32 (l.getD 15 0)] := by
  apply List.ext_getElem?
  intro i
  by_cases hi : i < 16
  · rw [List.getElem?_map, List.getElem?_eq_getElem (by omega)]
    have hd : ∀ j, (hj : j < 16) → l.getD j 0 = l[j]'(by omega) := fun j hj => by simp [List.getD_eq_getElem?_getD, List.getElem?_eq_getElem (show j < l.length by omega)]
    rw [hd 0 (by omega), hd 1 (by omega), hd 2 (by omega), hd 3 (by omega), hd 4 (by omega), hd 5 (by omega), hd 6 (by omega), hd 7 (by omega), hd 8 (by omega), hd 9 (by omega), hd 10 (by omega), hd 11 (by omega), hd 12 (by omega), hd 13 (by omega), hd 14 (by omega), hd 15 (by omega)]
    rcases (show i = 0 ∨ i = 1 ∨ i = 2 ∨ i = 3 ∨ i = 4 ∨ i = 5 ∨ i = 6 ∨ i = 7 ∨ i = 8 ∨ i = 9 ∨ i = 10 ∨ i = 11 ∨ i = 12 ∨ i = 13 ∨ i = 14 ∨ i = 15 by omega) with rfl | rfl | rfl | rfl | rfl | rfl | rfl | rfl | rfl | rfl | rfl | rfl | rfl | rfl | rfl | rfl <;> rfl
  · rw [List.getElem?_eq_none (by simp; omega), List.getElem?_eq_none (by simp; omega)]
/-- the cells of a set-up: registers, a place, inputs -/
theorem sees_set {w : World} {cs : List Value} (h : Sees w setSh cs) : ∃ (s : A.Regs) (pc : Int) (A' : Option Addr) (n c : Nat), A.Ok s ∧ (0 ≤ pc ∧ pc < 4294967296) ∧ (∃ is, Ws w A' n c is) ∧ cs = [.int .u32 (s.r 0), .int .u32 (s.r 1), .int .u32 (s.r 2), .int .u32 (s.r 3), .int .u32 (s.r 4), .int .u32 (s.r 5), .int .u32 (s.r 6), .int .u32 (s.r 7), .int .u32 (s.r 8), .int .u32 (s.r 9), .int .u32 (s.r 10), .int .u32 (s.r 11), .int .u32 (s.r 12), .int .u32 (s.r 13), .int .u32 (s.r 14), .int .u32 (s.r 15), .int .u32 s.h, .bool s.n, .bool s.z, .bool s.c, .bool s.v, .int .u32 pc, .slice A' n c] := by
  obtain ⟨c0, d0, rfl, _, h0, h⟩ := h
  obtain ⟨c1, d1, rfl, _, ⟨pc, rfl, hp⟩, h⟩ := h
  obtain ⟨c2, d2, rfl, _, h2, h⟩ := h
  have hd : d2 = [] := h
  subst hd
  obtain ⟨e0, f0, rfl, _, hR, h0⟩ := h0
  obtain ⟨e1, f1, rfl, _, ⟨hh, rfl, hw⟩, h0⟩ := h0
  obtain ⟨e2, f2, rfl, _, ⟨n, rfl⟩, h0⟩ := h0
  obtain ⟨e3, f3, rfl, _, ⟨z, rfl⟩, h0⟩ := h0
  obtain ⟨e4, f4, rfl, _, ⟨c, rfl⟩, h0⟩ := h0
  obtain ⟨e5, f5, rfl, _, ⟨v, rfl⟩, h0⟩ := h0
  have hf : f5 = [] := h0
  subst hf
  obtain ⟨l, hl, rfl, hr⟩ := sees_rep hR
  have hs : ∃ A n c, c2 = [.slice A n c] := by
    rcases h2 with rfl | ⟨ad, len, cap, rfl, _⟩
    · exact ⟨_, _, _, rfl⟩
    · exact ⟨_, _, _, rfl⟩
  obtain ⟨A', m, q, rfl⟩ := hs
  refine ⟨A.of l hh n z c v, pc, A', m, q, ⟨fun j hj => ?_, A.word hw⟩, A.word hp, sees_ws h2, ?_⟩
  · show 0 ≤ l.getD j 0 ∧ l.getD j 0 < 4294967296
    rw [List.getD_eq_getElem?_getD, List.getElem?_eq_getElem (show j < l.length by omega)]
    exact hr _ (List.getElem_mem _)
  · rw [list16 l hl]; rfl
section
variable {H : Type} {enc : TypeId × Value → H} {P : Program} {w : World} {spare : Nat → Bool} {held : Bool}
theorem open_row {r : Reach} {b0 n : Nat} {t : TypeId} {fs : Array Field} {s : Sh} {v : Value} {d : DataW H} {p : List MemPlace} (hu : P.underlying t = some (.struct fs)) (hs : shapeAt P n t = some s) (hv : Value.okWide P w r b0 t v) (h : DataW.Trod enc P w 0 spare held t v d p) :
    ∃ cs : Array Value, v = .agg cs ∧ Sees w s cs.toList := by
  have hcs : ∃ cs : Array Value, v = .agg cs := by
    simp only [Value.okWide, hu] at hv
    obtain ⟨cs, rfl, _⟩ := hv
    exact ⟨cs, rfl⟩
  obtain ⟨cs, rfl⟩ := hcs
  exact ⟨cs, rfl, by have := open_sees hs h; simpa [Value.cells] using this⟩
end
end Go.Proofs.Ytpfgmfiegnkocaa
