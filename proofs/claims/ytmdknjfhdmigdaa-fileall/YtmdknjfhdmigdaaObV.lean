/-
  An object of the call's own in a block: what stores and appends do to it.
-/
import Derived.Test.YtmdknjfhdmigdaaObQ
namespace Go.Proofs.Ytmdknjfhdmigdaa
open Go.RowKit
set_option linter.unusedVariables false
set_option linter.unusedSimpArgs false
set_option maxRecDepth 100000
theorem Ow.len' {e : TypeId} {k : IntKind} {base g n c : Nat} {xs : List Int} {w : World} (h : Ow e k base g n c xs w) : xs.length = n := h.has.2.2.2.1
/-- the block O is an object of the words W, the sites S and the names Y, all of the call's own since base -/
structure Ob.Own (base O : Nat) (A : Option Addr) (n c : Nat) (B : Option Addr) (m d : Nat) (C : Option Addr) (k e : Nat) (W S : List Int) (Y : List Ob.Y) (w : World) : Prop where
  hG : Has O #[.slice A n c, .slice B m d, .slice C k e] 26 w
  hP : On 45 .u32 base A n c W w
  hQ : On 3 .i64 base B m d S w
  hY : Os 52 base C k e Y w
  hO : base ≤ O
section
variable {base O : Nat} {A B C : Option Addr} {n c m d k e : Nat} {W S : List Int} {Y : List Ob.Y} {w w' : World}
theorem Ob.Own.below (h : Ob.Own base O A n c B m d C k e W S Y w) (hb : Below w.heap.size w w') : Ob.Own base O A n c B m d C k e W S Y w' :=
  ⟨h.hG.below hb, h.hP.below hb, h.hQ.below hb, h.hY.below hb, h.hO⟩
theorem Ob.Own.drew (h : Ob.Own base O A n c B m d C k e W S Y w) : Ob.Own base O A n c B m d C k e W S Y w.drew := ⟨h.hG.drew, h.hP, h.hQ, h.hY.drew, h.hO⟩
theorem Ob.Own.wo (h : Ob.Own base O A n c B m d C k e W S Y w) (hr : ∀ x ∈ W, 0 ≤ x ∧ x < 4294967296) : Wo w A n c W := h.hP.rg.rw hr
theorem Ob.Own.in (h : Ob.Own base O A n c B m d C k e W S Y w) : In w B m d S := h.hQ.rg
theorem Ob.Own.sy (h : Ob.Own base O A n c B m d C k e W S Y w) : Sy w C k e Y := h.hY.sy
theorem Ob.Own.low (h : Ob.Own base O A n c B m d C k e W S Y w) : base ≤ w.heap.size := Nat.le_trans h.hO (Nat.le_of_lt h.hG.lt)
/-- a word is stored -/
theorem Ob.Own.word {g : Nat} (h : Ob.Own base O (some ⟨g, 0, none⟩) n c B m d C k e W S Y w) (j : Nat) (x : Int) : Ob.Own base O (some ⟨g, 0, none⟩) n c B m d C k e (W.set j x) S Y (w.setCell ⟨g, j, none⟩ (.int .u32 x)) := by
  have hP : Ow 45 .u32 base g n c W w := h.hP
  have h1 := h.hP.ne h.hG (by decide) g rfl
  obtain ⟨_, _, _, _, cur, hh, _⟩ := hP.has
  exact ⟨h.hG.other (fun e => h1 e.symm) _, (hP.set j x).on, h.hQ.other hh (by decide) j _, h.hY.other hh (by decide) j _, h.hO⟩
/-- a name's cell is stored -/
theorem Ob.Own.name {g : Nat} (h : Ob.Own base O A n c B m d (some ⟨g, 0, none⟩) k e W S Y w) (j : Nat) (hj : j < k) (s : ByteArray) : Ob.Own base O A n c B m d (some ⟨g, 0, none⟩) k e W S (Y.set j (s, Ob.pl Y j)) (w.setCell ⟨g, j * 2, none⟩ (.string s)) := by
  have h1 := h.hY.ne h.hG (by decide) g rfl
  obtain ⟨_, _, _, _, cur, hh, _⟩ := h.hY.has
  exact ⟨h.hG.other (fun e => h1 e.symm) _, h.hP.other hh (by decide) _ _, h.hQ.other hh (by decide) _ _, h.hY.set1 j hj s, h.hO⟩
theorem Ob.Own.place {g : Nat} (h : Ob.Own base O A n c B m d (some ⟨g, 0, none⟩) k e W S Y w) (j : Nat) (hj : j < k) (a : Int) : Ob.Own base O A n c B m d (some ⟨g, 0, none⟩) k e W S (Y.set j (Ob.nm Y j, a)) (w.setCell ⟨g, j * 2 + 1, none⟩ (.int .i64 a)) := by
  have h1 := h.hY.ne h.hG (by decide) g rfl
  obtain ⟨_, _, _, _, cur, hh, _⟩ := h.hY.has
  exact ⟨h.hG.other (fun e => h1 e.symm) _, h.hP.other hh (by decide) _ _, h.hQ.other hh (by decide) _ _, h.hY.set2 j hj a, h.hO⟩
/-- a row of it is stored -/
theorem Ob.Own.row0 (h : Ob.Own base O A n c B m d C k e W S Y w) {A' : Option Addr} {n' c' : Nat} {W' : List Int} (hN : On 45 .u32 base A' n' c' W' w) : Ob.Own base O A' n' c' B m d C k e W' S Y (w.setCell ⟨O, 0, none⟩ (.slice A' n' c')) :=
  ⟨h.hG.set 0 _, hN.other h.hG (by decide) 0 _, h.hQ.other h.hG (by decide) 0 _, h.hY.other h.hG (by decide) 0 _, h.hO⟩
theorem Ob.Own.row1 (h : Ob.Own base O A n c B m d C k e W S Y w) {B' : Option Addr} {m' d' : Nat} {S' : List Int} (hN : On 3 .i64 base B' m' d' S' w) : Ob.Own base O A n c B' m' d' C k e W S' Y (w.setCell ⟨O, 1, none⟩ (.slice B' m' d')) :=
  ⟨h.hG.set 1 _, h.hP.other h.hG (by decide) 1 _, hN.other h.hG (by decide) 1 _, h.hY.other h.hG (by decide) 1 _, h.hO⟩
theorem Ob.Own.row2 (h : Ob.Own base O A n c B m d C k e W S Y w) {C' : Option Addr} {k' e' : Nat} {Y' : List Ob.Y} (hN : Os 52 base C' k' e' Y' w) : Ob.Own base O A n c B m d C' k' e' W S Y' (w.setCell ⟨O, 2, none⟩ (.slice C' k' e')) :=
  ⟨h.hG.set 2 _, h.hP.other h.hG (by decide) 2 _, h.hQ.other h.hG (by decide) 2 _, hN.other h.hG (by decide) 2 _, h.hO⟩
/-- behind an append to the one row: the others, and the block -/
theorem On.grown {e' : TypeId} {kk : IntKind} {base' base'' nn cc : Nat} {AA : Option Addr} {xs : List Int} {row : Option Nat} (h : On e' kk base' AA nn cc xs w) (hg : w.grownBy w' row) (hr : ∀ q, row = some q → ∀ p, (Value.slice AA nn cc).ownBlock = some p → q ≠ p) : On e' kk base' AA nn cc xs w' := by
  rcases h.cases with ⟨rfl, rfl, rfl, rfl⟩ | ⟨g, rfl, h⟩
  · exact On.none _ _ _ _
  · have h : Ow e' kk base' g nn cc xs w := h
    obtain ⟨h1, h2, h3, h4, cur, h5, h6, h7⟩ := h.has
    exact (Ow.mk' h1 h2 h3 h4 cur (h5.grown hg (fun q hq => hr q hq g rfl)) h6 h7).on
theorem Os.grown {e' : TypeId} {base' nn cc : Nat} {AA : Option Addr} {ys : List Ob.Y} {row : Option Nat} (h : Os e' base' AA nn cc ys w) (hg : w.grownBy w' row) (hr : ∀ q, row = some q → ∀ p, (Value.slice AA nn cc).ownBlock = some p → q ≠ p) : Os e' base' AA nn cc ys w' := by
  rcases h.cases with ⟨rfl, rfl, rfl, rfl⟩ | ⟨g, rfl, h⟩
  · exact Os.none _ _ _
  · obtain ⟨h1, h2, h3, h4, cur, h5, h6, h7⟩ := h.has
    exact Os.mk' h1 h2 h3 h4 cur (h5.grown hg (fun q hq => hr q hq g rfl)) h6 h7
/-- two rows of unlike kinds have unlike blocks -/
theorem On.unlike {e1 e2 : TypeId} {k1 k2 : IntKind} {b1 b2 n1 n2 c1 c2 : Nat} {A1 A2 : Option Addr} {x1 x2 : List Int} (h : On e1 k1 b1 A1 n1 c1 x1 w) (h' : On e2 k2 b2 A2 n2 c2 x2 w) (he : e1 ≠ e2) : ∀ q, (Value.slice A1 n1 c1).ownBlock = some q → ∀ p, (Value.slice A2 n2 c2).ownBlock = some p → q ≠ p := fun q hq p hp => by
  rcases h'.cases with ⟨rfl, _⟩ | ⟨g, rfl, h'⟩
  · cases hp
  · cases hp
    have h' : Ow e2 k2 b2 g n2 c2 x2 w := h'
    obtain ⟨_, _, _, _, cur, hh, _⟩ := h'.has
    exact h.ne hh (fun e => he e.symm) q hq
theorem On.unlikeS {e1 e2 : TypeId} {k1 : IntKind} {b1 b2 n1 n2 c1 c2 : Nat} {A1 A2 : Option Addr} {x1 : List Int} {x2 : List Ob.Y} (h : On e1 k1 b1 A1 n1 c1 x1 w) (h' : Os e2 b2 A2 n2 c2 x2 w) (he : e1 ≠ e2) : ∀ q, (Value.slice A1 n1 c1).ownBlock = some q → ∀ p, (Value.slice A2 n2 c2).ownBlock = some p → q ≠ p := fun q hq p hp => by
  rcases h'.cases with ⟨rfl, _⟩ | ⟨g, rfl, h'⟩
  · cases hp
  · cases hp
    obtain ⟨_, _, _, _, cur, hh, _⟩ := h'.has
    exact h.ne hh (fun e => he e.symm) q hq
theorem Ob.Own.grow0 (h : Ob.Own base O A n c B m d C k e W S Y w) (hg : w.grownBy w' (Value.slice A n c).ownBlock) {A' : Option Addr} {n' c' : Nat} {W' : List Int} (hN : On 45 .u32 base A' n' c' W' w') : Ob.Own base O A' n' c' B m d C k e W' S Y (w'.setCell ⟨O, 0, none⟩ (.slice A' n' c')) := by
  have hG := h.hG.grown hg (h.hP.ne h.hG (by decide))
  exact ⟨hG.set 0 _, hN.other hG (by decide) 0 _, (h.hQ.grown (base'' := base) hg (h.hP.unlike h.hQ (by decide))).other hG (by decide) 0 _, (h.hY.grown hg (h.hP.unlikeS h.hY (by decide))).other hG (by decide) 0 _, h.hO⟩
theorem Ob.Own.grow1 (h : Ob.Own base O A n c B m d C k e W S Y w) (hg : w.grownBy w' (Value.slice B m d).ownBlock) {B' : Option Addr} {m' d' : Nat} {S' : List Int} (hN : On 3 .i64 base B' m' d' S' w') : Ob.Own base O A n c B' m' d' C k e W S' Y (w'.setCell ⟨O, 1, none⟩ (.slice B' m' d')) := by
  have hG := h.hG.grown hg (h.hQ.ne h.hG (by decide))
  exact ⟨hG.set 1 _, (h.hP.grown (base'' := base) hg (h.hQ.unlike h.hP (by decide))).other hG (by decide) 1 _, hN.other hG (by decide) 1 _, (h.hY.grown hg (h.hQ.unlikeS h.hY (by decide))).other hG (by decide) 1 _, h.hO⟩
theorem Ob.Own.grow2 (h : Ob.Own base O A n c B m d C k e W S Y w) (hg : w.grownBy w' (Value.slice C k e).ownBlock) {C' : Option Addr} {k' e' : Nat} {Y' : List Ob.Y} (hN : Os 52 base C' k' e' Y' w') : Ob.Own base O A n c B m d C' k' e' W S Y' (w'.setCell ⟨O, 2, none⟩ (.slice C' k' e')) := by
  have hG := h.hG.grown hg (h.hY.ne h.hG (by decide))
  exact ⟨hG.set 2 _, (h.hP.grown (base'' := base) hg (fun q hq p hp e => h.hP.unlikeS h.hY (by decide) p hp q hq e.symm)).other hG (by decide) 2 _, (h.hQ.grown (base'' := base) hg (fun q hq p hp e => h.hQ.unlikeS h.hY (by decide) p hp q hq e.symm)).other hG (by decide) 2 _, hN.other hG (by decide) 2 _, h.hO⟩
end
end Go.Proofs.Ytmdknjfhdmigdaa
