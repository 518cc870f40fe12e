/-
  Joined: Kit0, ChP.
-/
import Derived.RowKit
import Derived.RowKit3
import Derived.WalkKit
import Derived.Below
import Derived.OneCell
import Derived.Deep.Draws
/-
  A world that has grown: nothing that was there has turned, and nothing is frozen that was not: what the contracts of functions that make memory say of the world.
-/
namespace Go.Proofs.Ytpfgmfiegnkocaa
open Go.RowKit
set_option linter.unusedVariables false
set_option linter.unusedSimpArgs false
set_option maxRecDepth 100000
set_option maxRecDepth 100000

structure Kept (w w' : World) : Prop where
  below : Below w.heap.size w w'
  froze : ∀ a, w'.frozen? a = w.frozen? a
theorem Kept.refl (w : World) : Kept w w := ⟨Below.refl _ _, fun _ => rfl⟩
theorem Kept.trans {a b c : World} (h : Kept a b) (k : Kept b c) : Kept a c :=
  ⟨h.below.trans (k.below.mono h.below.size), fun x => (k.froze x).trans (h.froze x)⟩
theorem Kept.drew {a b : World} (h : Kept a b) : Kept a b.drew := ⟨h.below.drew, h.froze⟩
theorem Kept.drewN {a b : World} (h : Kept a b) (n : Nat) : Kept a (b.drewN n) := ⟨⟨h.below.os, h.below.tape, h.below.output, h.below.size, h.below.block⟩, h.froze⟩
theorem Kept.alloc {a b : World} (h : Kept a b) (c : Array Value) (t : TypeId) : Kept a (b.alloc (.cells c t)) :=
  ⟨h.below.alloc h.below.size _, fun x => (frozen?_alloc_cells _ _ _ x).trans (h.froze x)⟩
theorem Kept.setCell {a b : World} (h : Kept a b) {p : Addr} (hp : a.heap.size ≤ p.block) (v : Value) : Kept a (b.setCell p v) :=
  ⟨h.below.setCell hp v, fun x => (World.frozen?_setCell _ _ _ _).trans (h.froze x)⟩
theorem Kept.grown {a b : World} (h : Kept a b) : Grown a b := ⟨h.below.frame _, h.froze, h.below.size⟩
theorem Kept.cell {a b : World} (h : Kept a b) {p : Addr} (hp : p.block < a.heap.size) : b.cell? p = a.cell? p := h.below.cell hp
theorem Kept.size {a b : World} (h : Kept a b) : a.heap.size ≤ b.heap.size := h.below.size
theorem Kept.block {a b : World} (h : Kept a b) {k : Nat} {o : Obj} (hk : a.heap[k]? = some o) : b.heap[k]? = some o := (h.below.block k (lt_of_block hk)).trans hk
/-- the same from the block B on: blocks below B are as they were -/
structure KeptB (B : Nat) (w w' : World) : Prop where
  below : Below B w w'
  froze : ∀ a, w'.frozen? a = w.frozen? a
theorem KeptB.refl (B : Nat) (w : World) : KeptB B w w := ⟨Below.refl _ _, fun _ => rfl⟩
theorem KeptB.trans {B : Nat} {a b c : World} (h : KeptB B a b) (k : KeptB B b c) : KeptB B a c :=
  ⟨h.below.trans k.below, fun x => (k.froze x).trans (h.froze x)⟩
theorem KeptB.drew {B : Nat} {a b : World} (h : KeptB B a b) : KeptB B a b.drew := ⟨h.below.drew, h.froze⟩
theorem KeptB.setCell {B : Nat} {a b : World} (h : KeptB B a b) {p : Addr} (hp : B ≤ p.block) (v : Value) : KeptB B a (b.setCell p v) :=
  ⟨h.below.setCell hp v, fun x => (World.frozen?_setCell _ _ _ _).trans (h.froze x)⟩
theorem Kept.transB {B : Nat} {a b c : World} (h : Kept a b) (k : KeptB B b c) (hB : a.heap.size ≤ B) : Kept a c :=
  ⟨h.below.trans (k.below.mono hB), fun x => (k.froze x).trans (h.froze x)⟩
theorem heap_alloc_last (w : World) (o : Obj) : (w.alloc o).heap[w.heap.size]? = some o := by
  show (w.heap.push o)[w.heap.size]? = _
  rw [Array.getElem?_push, if_pos rfl]
theorem heap_alloc_keep {w : World} {b : Nat} {o : Obj} (h : w.heap[b]? = some o) (o' : Obj) : (w.alloc o').heap[b]? = some o :=
  (Below.heap_alloc w o' b (lt_of_block h)).trans h
theorem heap_setCell_keep {w : World} {b : Nat} {o : Obj} (h : w.heap[b]? = some o) {p : Addr} (hp : b ≠ p.block) (v : Value) : (w.setCell p v).heap[b]? = some o :=
  (Below.heap_setCell w p v b hp).trans h
theorem r1 {k : IntKind} {a b : Int} {w : World} (h : a = b) : Ending.returned (.int k a) = .returned (.int k b) ∧ w = w := ⟨by rw [h], rfl⟩
theorem r1b {a b : Bool} {w : World} (h : a = b) : Ending.returned (.bool a) = .returned (.bool b) ∧ w = w := ⟨by rw [h], rfl⟩
theorem r1k {k : IntKind} {a b : Int} {w w' : World} (h : a = b) (hk : Kept w w') : Ending.returned (.int k a) = .returned (.int k b) ∧ Kept w w' := ⟨by rw [h], hk⟩
theorem r1bk {a b : Bool} {w w' : World} (h : a = b) (hk : Kept w w') : Ending.returned (.bool a) = .returned (.bool b) ∧ Kept w w' := ⟨by rw [h], hk⟩
end Go.Proofs.Ytpfgmfiegnkocaa
/-
  Package chain, plainly: which sites rise, the words with their chain, the sites of a chain; what was packed is unpacked, and what was unpacked is packed. No Go function is named here.
-/
namespace Go.Proofs.Ytpfgmfiegnkocaa
open Go.RowKit
set_option linter.unusedVariables false
set_option linter.unusedSimpArgs false
set_option maxRecDepth 100000
/-- the site ahead of the one of a number; -1 ahead of the first one -/
def Ch.prev (ss : List Int) : Nat → Int
  | 0 => -1
  | k + 1 => ss.getD k 0
/-- the site of a number may be, of m words -/
def Ch.OkAt (m : Nat) (ss : List Int) (k : Nat) : Prop := Ch.prev ss k < ss.getD k 0 ∧ ss.getD k 0 < (m : Int) ∧ ss.getD k 0 ≤ 65534
instance (m : Nat) (ss : List Int) (k : Nat) : Decidable (Ch.OkAt m ss k) := inferInstanceAs (Decidable (_ ∧ _ ∧ _))
/-- the sites may be, of m words -/
def Ch.Rises (m : Nat) (ss : List Int) : Prop := ∀ k, k < ss.length → Ch.OkAt m ss k
instance (m : Nat) (ss : List Int) : Decidable (Ch.Rises m ss) := Nat.decidableBallLT ss.length (fun k _ => Ch.OkAt m ss k)
/-- a site's word -/
def Ch.val (ws ss : List Int) (k : Nat) : Int := ws.getD (ss.getD k 0).toNat 0
def Ch.Fits (ws ss : List Int) : Prop := ∀ k, k < ss.length → Ch.val ws ss k ≤ 65535
instance (ws ss : List Int) : Decidable (Ch.Fits ws ss) := Nat.decidableBallLT ss.length (fun k _ => Ch.val ws ss k ≤ 65535)
/-- the words with the chain of the first k sites -/
def Ch.pk (ws ss : List Int) : Nat → List Int
  | 0 => ws
  | k + 1 => (Ch.pk ws ss k).set (ss.getD k 0).toNat (Ch.val ws ss k * 65536 + (Ch.prev ss k + 1))
def Ch.pE (ws ss : List Int) : Int := if Ch.Rises ws.length ss then (if Ch.Fits ws ss then 0 else 8) else 7
def Ch.pH (ws ss : List Int) : Int := if Ch.pE ws ss = 0 then Ch.prev ss ss.length + 1 else 0
def Ch.pW (ws ss : List Int) : List Int := if Ch.pE ws ss = 0 then Ch.pk ws ss ss.length else []
/-- the link of a word -/
def Ch.lk (ws : List Int) (s : Nat) : Nat := (ws.getD s 0 % 65536).toNat
def Ch.chn (ws : List Int) : Nat → Nat → Option (List Nat)
  | _, 0 => some []
  | 0, _ + 1 => none
  | f + 1, s + 1 => if Ch.lk ws s ≤ s then (Ch.chn ws f (Ch.lk ws s)).map (s :: ·) else none
theorem Ch.chn_zero (ws : List Int) (f : Nat) : Ch.chn ws f 0 = some [] := by cases f <;> rfl
theorem Ch.chn_more (ws : List Int) : ∀ (f h : Nat), h ≤ f → Ch.chn ws f h = Ch.chn ws (f + 1) h
  | f, 0, _ => by rw [Ch.chn_zero, Ch.chn_zero]
  | 0, h + 1, hh => by omega
  | f + 1, h + 1, hh => by
    show (if Ch.lk ws h ≤ h then (Ch.chn ws f (Ch.lk ws h)).map (h :: ·) else none) = (if Ch.lk ws h ≤ h then (Ch.chn ws (f + 1) (Ch.lk ws h)).map (h :: ·) else none)
    split
    · rw [Ch.chn_more ws f _ (by omega)]
    · rfl
theorem Ch.chn_fuel (ws : List Int) (h : Nat) : ∀ d, Ch.chn ws (h + d) h = Ch.chn ws h h
  | 0 => rfl
  | d + 1 => by rw [← Nat.add_assoc, ← Ch.chn_more ws (h + d) h (by omega)]; exact Ch.chn_fuel ws h d
/-- the sites of the chain from a head on, the highest one first -/
def Ch.U (ws : List Int) (h : Nat) : Option (List Nat) := Ch.chn ws h h
theorem Ch.U_zero (ws : List Int) : Ch.U ws 0 = some [] := rfl
theorem Ch.U_succ (ws : List Int) (s : Nat) : Ch.U ws (s + 1) = if Ch.lk ws s ≤ s then (Ch.U ws (Ch.lk ws s)).map (s :: ·) else none := by
  show (if Ch.lk ws s ≤ s then (Ch.chn ws s (Ch.lk ws s)).map (s :: ·) else none) = _
  split
  · rename_i h
    have := Ch.chn_fuel ws (Ch.lk ws s) (s - Ch.lk ws s)
    rw [show Ch.lk ws s + (s - Ch.lk ws s) = s by omega] at this
    rw [this]; rfl
  · rfl
/-- the words without the links of these sites -/
def Ch.un (ws : List Int) (d : List Nat) : List Int := d.foldl (fun v s => v.set s (ws.getD s 0 / 65536)) ws
/-- the sites of the chain, the highest one first, if it is one -/
def Ch.R (ws : List Int) (head : Int) : Option (List Nat) := if 0 ≤ head ∧ head ≤ (ws.length : Int) then Ch.U ws head.toNat else none
def Ch.uE (r : Option (List Nat)) : Int := match r with | none => 10 | some _ => 0
def Ch.uW (ws : List Int) (r : Option (List Nat)) : List Int := match r with | none => [] | some d => Ch.un ws d
def Ch.uS (r : Option (List Nat)) : List Int := match r with | none => [] | some d => d.reverse.map Int.ofNat
/-! what was packed -/
theorem Ch.prev_ge {m : Nat} {ss : List Int} (h : Ch.Rises m ss) : ∀ k, k ≤ ss.length → -1 ≤ Ch.prev ss k
  | 0, _ => Int.le_refl _
  | k + 1, hk => by
    have h1 := Ch.prev_ge h k (by omega)
    have h2 := (h k (by omega)).1
    show -1 ≤ ss.getD k 0
    omega
theorem Ch.at_ge {m : Nat} {ss : List Int} (h : Ch.Rises m ss) (k : Nat) (hk : k < ss.length) : 0 ≤ ss.getD k 0 ∧ ss.getD k 0 < (m : Int) ∧ ss.getD k 0 ≤ 65534 := by
  have h1 := Ch.prev_ge h k (by omega)
  obtain ⟨h2, h3, h4⟩ := h k hk
  exact ⟨by omega, h3, h4⟩
theorem Ch.mono {m : Nat} {ss : List Int} (h : Ch.Rises m ss) (i : Nat) : ∀ j, i < j → j < ss.length → ss.getD i 0 < ss.getD j 0
  | 0, hij, _ => by omega
  | j + 1, hij, hj => by
    have h1 : ss.getD j 0 < ss.getD (j + 1) 0 := (h (j + 1) hj).1
    rcases Nat.lt_or_ge i j with h2 | h2
    · have := Ch.mono h i j h2 (by omega); omega
    · rw [show i = j by omega]; exact h1
theorem Ch.apart {m : Nat} {ss : List Int} (h : Ch.Rises m ss) (i j : Nat) (hi : i < ss.length) (hj : j < ss.length) (hij : i ≠ j) : (ss.getD i 0).toNat ≠ (ss.getD j 0).toNat := by
  have h1 := Ch.at_ge h i hi
  have h2 := Ch.at_ge h j hj
  rcases Nat.lt_or_gt_of_ne hij with h3 | h3
  · have := Ch.mono h i j h3 hj; omega
  · have := Ch.mono h j i h3 hi; omega
theorem Ch.prev_lt {m : Nat} {ss : List Int} (h : Ch.Rises m ss) : ∀ k, k ≤ ss.length → Ch.prev ss k < (m : Int) ∧ Ch.prev ss k ≤ 65534
  | 0, _ => by show (-1 : Int) < m ∧ (-1 : Int) ≤ 65534; omega
  | k + 1, hk => (h k (by omega)).2
theorem Ch.pk_len (ws ss : List Int) : ∀ k, (Ch.pk ws ss k).length = ws.length
  | 0 => rfl
  | k + 1 => by show (List.set _ _ _).length = _; rw [List.length_set]; exact Ch.pk_len ws ss k
theorem Ch.getD_set {l : List Int} {i j : Nat} {x : Int} : (l.set i x).getD j 0 = if i = j ∧ j < l.length then x else l.getD j 0 := by
  simp only [List.getD_eq_getElem?_getD, List.getElem?_set]
  by_cases h : i = j
  · subst h
    by_cases h2 : i < l.length
    · simp [h2]
    · simp [h2]
  · simp [h]
theorem Ch.pk_off {ws ss : List Int} {q : Nat} : ∀ k, (∀ j, j < k → (ss.getD j 0).toNat ≠ q) → (Ch.pk ws ss k).getD q 0 = ws.getD q 0
  | 0, _ => rfl
  | k + 1, h => by
    show (List.set _ _ _).getD q 0 = _
    rw [Ch.getD_set, if_neg (fun e => h k (by omega) e.1)]
    exact Ch.pk_off k (fun j hj => h j (by omega))
theorem Ch.pk_on {ws ss : List Int} (h : Ch.Rises ws.length ss) : ∀ k, k ≤ ss.length → ∀ j, j < k → (Ch.pk ws ss k).getD (ss.getD j 0).toNat 0 = Ch.val ws ss j * 65536 + (Ch.prev ss j + 1)
  | 0, _, j, hj => by omega
  | k + 1, hk, j, hj => by
    show (List.set _ _ _).getD _ 0 = _
    have h1 := Ch.at_ge h k (by omega)
    rw [Ch.getD_set, Ch.pk_len]
    rcases Nat.lt_or_ge j k with h2 | h2
    · rw [if_neg (fun e => Ch.apart h k j (by omega) (by omega) (by omega) e.1)]
      exact Ch.pk_on h k (by omega) j h2
    · obtain rfl : j = k := by omega
      rw [if_pos ⟨rfl, by omega⟩]
/-- the words P have the chain of the sites ss -/
def Ch.Has (P ss : List Int) : Prop := ∀ j, j < ss.length → (P.getD (ss.getD j 0).toNat 0) % 65536 = Ch.prev ss j + 1
theorem Ch.pk_has {ws ss : List Int} (h : Ch.Rises ws.length ss) : Ch.Has (Ch.pk ws ss ss.length) ss := fun j hj => by
  rw [Ch.pk_on h ss.length (Nat.le_refl _) j hj]
  have h1 := Ch.prev_ge h j (by omega)
  have h2 := Ch.prev_lt h j (by omega)
  omega
/-- the first k sites, the highest one first -/
def Ch.down (ss : List Int) (k : Nat) : List Nat := ((ss.take k).map Int.toNat).reverse
theorem Ch.down_succ {ss : List Int} {k : Nat} (hk : k < ss.length) : Ch.down ss (k + 1) = (ss.getD k 0).toNat :: Ch.down ss k := by
  unfold Ch.down
  rw [List.take_add_one, List.getElem?_eq_getElem hk, List.getD_eq_getElem?_getD, List.getElem?_eq_getElem hk, List.map_append, List.reverse_append]
  rfl
theorem Ch.U_down {m : Nat} {P ss : List Int} (h : Ch.Rises m ss) (hP : Ch.Has P ss) : ∀ k, k ≤ ss.length → Ch.U P (Ch.prev ss k + 1).toNat = some (Ch.down ss k)
  | 0, _ => rfl
  | k + 1, hk => by
    have h1 := Ch.prev_ge h k (by omega)
    have h2 := Ch.at_ge h k (by omega)
    have h3 := (h k (by omega)).1
    have e : (Ch.prev ss (k + 1) + 1).toNat = (ss.getD k 0).toNat + 1 := by show (ss.getD k 0 + 1).toNat = _; omega
    have e2 : Ch.lk P (ss.getD k 0).toNat = (Ch.prev ss k + 1).toNat := by unfold Ch.lk; rw [hP k (by omega)]
    rw [e, Ch.U_succ, e2, if_pos (by omega), Ch.U_down h hP k (by omega), Ch.down_succ (by omega)]
    rfl
theorem Ch.down_all {m : Nat} {ss : List Int} (h : Ch.Rises m ss) : (Ch.down ss ss.length).reverse.map Int.ofNat = ss := by
  unfold Ch.down
  rw [List.take_length, List.reverse_reverse, List.map_map]
  apply List.ext_getElem
  · simp
  · intro i h1 h2
    have := Ch.at_ge h i h2
    rw [List.getD_eq_getElem?_getD, List.getElem?_eq_getElem h2] at this
    simp at this
    simp
    omega
theorem Ch.un_len (ws : List Int) : ∀ (d : List Nat) (v : List Int), (d.foldl (fun v s => v.set s (ws.getD s 0 / 65536)) v).length = v.length
  | [], v => rfl
  | s :: d, v => by
    rw [List.foldl_cons, Ch.un_len ws d, List.length_set]
theorem Ch.un_length (ws : List Int) (d : List Nat) : (Ch.un ws d).length = ws.length := Ch.un_len ws d ws
theorem Ch.un_off (ws : List Int) (q : Nat) : ∀ (d : List Nat) (v : List Int), q ∉ d → (d.foldl (fun v s => v.set s (ws.getD s 0 / 65536)) v).getD q 0 = v.getD q 0
  | [], v, _ => rfl
  | s :: d, v, h => by
    rw [List.foldl_cons, Ch.un_off ws q d _ (fun e => h (List.mem_cons_of_mem _ e)), Ch.getD_set, if_neg]
    rintro ⟨rfl, _⟩
    exact h (List.mem_cons_self)
theorem Ch.un_on (ws : List Int) (q : Nat) : ∀ (d : List Nat) (v : List Int), q ∈ d → q < v.length → (d.foldl (fun v s => v.set s (ws.getD s 0 / 65536)) v).getD q 0 = ws.getD q 0 / 65536
  | [], v, h, _ => by cases h
  | s :: d, v, h, hv => by
    rw [List.foldl_cons]
    by_cases hd : q ∈ d
    · exact Ch.un_on ws q d _ hd (by rw [List.length_set]; exact hv)
    · rw [Ch.un_off ws q d _ hd, Ch.getD_set]
      rcases List.mem_cons.1 h with rfl | h2
      · rw [if_pos ⟨rfl, hv⟩]
      · exact absurd h2 hd
theorem Ch.ext {a b : List Int} (hl : a.length = b.length) (h : ∀ q, q < b.length → a.getD q 0 = b.getD q 0) : a = b := by
  apply List.ext_getElem hl
  intro i h1 h2
  have := h i h2
  simpa [List.getD_eq_getElem?_getD, List.getElem?_eq_getElem h1, List.getElem?_eq_getElem h2] using this
theorem Ch.mem_down {ss : List Int} {q : Nat} (h : q ∈ Ch.down ss ss.length) : ∃ j, j < ss.length ∧ q = (ss.getD j 0).toNat := by
  unfold Ch.down at h
  rw [List.take_length, List.mem_reverse, List.mem_map] at h
  obtain ⟨x, hx, rfl⟩ := h
  obtain ⟨j, hj, rfl⟩ := List.getElem_of_mem hx
  exact ⟨j, hj, by rw [List.getD_eq_getElem?_getD, List.getElem?_eq_getElem hj]; rfl⟩
theorem Ch.in_down {ss : List Int} {j : Nat} (hj : j < ss.length) : (ss.getD j 0).toNat ∈ Ch.down ss ss.length := by
  unfold Ch.down
  rw [List.take_length, List.mem_reverse, List.mem_map]
  exact ⟨ss[j], List.getElem_mem hj, by rw [List.getD_eq_getElem?_getD, List.getElem?_eq_getElem hj]; rfl⟩
/-- what was packed is unpacked -/
theorem Ch.back {ws ss : List Int} (h : Ch.Rises ws.length ss) : Ch.R (Ch.pk ws ss ss.length) (Ch.prev ss ss.length + 1) = some (Ch.down ss ss.length) := by
  have h1 := Ch.prev_ge h ss.length (Nat.le_refl _)
  have h2 := Ch.prev_lt h ss.length (Nat.le_refl _)
  unfold Ch.R
  rw [Ch.pk_len, if_pos (by omega), Ch.U_down h (Ch.pk_has h) ss.length (Nat.le_refl _)]
theorem Ch.back_words {ws ss : List Int} (h : Ch.Rises ws.length ss) : Ch.un (Ch.pk ws ss ss.length) (Ch.down ss ss.length) = ws := by
  refine Ch.ext (by rw [Ch.un_length, Ch.pk_len]) (fun q hq => ?_)
  by_cases hd : q ∈ Ch.down ss ss.length
  · unfold Ch.un
    rw [Ch.un_on _ q _ _ hd (by rw [Ch.pk_len]; exact hq)]
    obtain ⟨j, hj, rfl⟩ := Ch.mem_down hd
    rw [Ch.pk_on h ss.length (Nat.le_refl _) j hj]
    have h1 := Ch.prev_ge h j (by omega)
    have h2 := Ch.prev_lt h j (by omega)
    unfold Ch.val
    omega
  · unfold Ch.un
    rw [Ch.un_off _ q _ _ hd]
    exact Ch.pk_off ss.length (fun j hj e => hd (e ▸ Ch.in_down hj))
/-- a link that is turned to its own site: no chain -/
theorem Ch.turned {m : Nat} {P ss : List Int} (h : Ch.Rises m ss) (i : Nat) (hi : i < ss.length) (hP : ∀ j, j < ss.length → j ≠ i → (P.getD (ss.getD j 0).toNat 0) % 65536 = Ch.prev ss j + 1) (hI : (P.getD (ss.getD i 0).toNat 0) % 65536 = ss.getD i 0 + 1) :
    ∀ k, i < k → k ≤ ss.length → Ch.U P (Ch.prev ss k + 1).toNat = none
  | 0, hk, _ => by omega
  | k + 1, hk, hl => by
    have h1 := Ch.prev_ge h k (by omega)
    have h2 := Ch.at_ge h k (by omega)
    have h3 := (h k (by omega)).1
    have e : (Ch.prev ss (k + 1) + 1).toNat = (ss.getD k 0).toNat + 1 := by show (ss.getD k 0 + 1).toNat = _; omega
    rw [e, Ch.U_succ]
    by_cases c : k = i
    · subst c
      have e2 : Ch.lk P (ss.getD k 0).toNat = (ss.getD k 0 + 1).toNat := by unfold Ch.lk; rw [hI]
      rw [e2, if_neg (by omega)]
    · have e2 : Ch.lk P (ss.getD k 0).toNat = (Ch.prev ss k + 1).toNat := by unfold Ch.lk; rw [hP k (by omega) c]
      rw [e2, if_pos (by omega), Ch.turned h i hi hP hI k (by omega) (by omega)]
      rfl
/-! what is unpacked -/
theorem Ch.prev_append (a b : List Int) : ∀ k, k ≤ a.length → Ch.prev (a ++ b) k = Ch.prev a k
  | 0, _ => rfl
  | k + 1, hk => by
    show (a ++ b).getD k 0 = a.getD k 0
    rw [List.getD_eq_getElem?_getD, List.getD_eq_getElem?_getD, List.getElem?_append_left (by omega)]
theorem Ch.getD_last (a : List Int) (x : Int) : (a ++ [x]).getD a.length 0 = x := by
  rw [List.getD_eq_getElem?_getD, List.getElem?_append_right (Nat.le_refl _)]; simp
theorem Ch.getD_left (a b : List Int) (k : Nat) (hk : k < a.length) : (a ++ b).getD k 0 = a.getD k 0 := by
  rw [List.getD_eq_getElem?_getD, List.getD_eq_getElem?_getD, List.getElem?_append_left hk]
theorem Ch.taken {ws : List Int} (hw : ws.length ≤ 65535) : ∀ (d : List Nat) (h : Nat), h ≤ ws.length → Ch.U ws h = some d →
    Ch.Rises ws.length (d.reverse.map Int.ofNat) ∧ Ch.prev (d.reverse.map Int.ofNat) d.length + 1 = (h : Int) ∧ Ch.Has ws (d.reverse.map Int.ofNat)
  | d, 0, _, hu => by
    rw [Ch.U_zero] at hu
    cases hu
    exact ⟨fun k hk => by simp at hk, rfl, fun k hk => by simp at hk⟩
  | d, s + 1, hs, hu => by
    rw [Ch.U_succ] at hu
    split at hu
    · rename_i hlk
      rw [Option.map_eq_some_iff] at hu
      obtain ⟨d', hd', rfl⟩ := hu
      obtain ⟨h1, h2, h3⟩ := Ch.taken hw d' (Ch.lk ws s) (by omega) hd'
      have hl : (d'.reverse.map Int.ofNat).length = d'.length := by simp
      have e : (s :: d').reverse.map Int.ofNat = d'.reverse.map Int.ofNat ++ [(s : Int)] := by simp
      rw [e, List.length_cons]
      generalize d'.reverse.map Int.ofNat = ss at *
      rw [← hl] at h2 ⊢
      refine ⟨fun k hk => ?_, ?_, fun k hk => ?_⟩
      · rw [List.length_append] at hk
        simp at hk
        unfold Ch.OkAt
        rw [Ch.prev_append ss _ k (by omega)]
        rcases Nat.lt_or_ge k ss.length with c | c
        · rw [Ch.getD_left _ _ _ c]
          exact h1 k c
        · obtain rfl : k = ss.length := by omega
          rw [Ch.getD_last]
          omega
      · show (ss ++ [(s : Int)]).getD ss.length 0 + 1 = _
        rw [Ch.getD_last]; omega
      · rw [List.length_append] at hk
        simp at hk
        rw [Ch.prev_append ss _ k (by omega)]
        rcases Nat.lt_or_ge k ss.length with c | c
        · rw [Ch.getD_left _ _ _ c]
          exact h3 k c
        · obtain rfl : k = ss.length := by omega
          rw [Ch.getD_last, h2]
          unfold Ch.lk
          rw [Int.toNat_natCast]
          omega
    · cases hu
theorem Ch.mem_taken {d : List Nat} {q : Nat} (h : q ∈ d) : ∃ j, j < d.length ∧ ((d.reverse.map Int.ofNat).getD j 0).toNat = q := by
  rw [← List.mem_reverse] at h
  obtain ⟨j, hj, rfl⟩ := List.getElem_of_mem h
  exact ⟨j, by simpa using hj, by rw [List.getD_eq_getElem?_getD, List.getElem?_map, List.getElem?_eq_getElem hj]; rfl⟩
theorem Ch.taken_in {d : List Nat} {j : Nat} (h : j < d.length) : ((d.reverse.map Int.ofNat).getD j 0).toNat ∈ d := by
  rw [← List.mem_reverse]
  have hj : j < d.reverse.length := by simpa using h
  rw [List.getD_eq_getElem?_getD, List.getElem?_map, List.getElem?_eq_getElem hj]
  exact List.getElem_mem hj
/-- what is unpacked was packed -/
theorem Ch.again {ws : List Int} (hw : ws.length ≤ 65535) (hr : ∀ x ∈ ws, 0 ≤ x ∧ x < 4294967296) {head : Int} {d : List Nat} (h : Ch.R ws head = some d) :
    Ch.Rises (Ch.un ws d).length (d.reverse.map Int.ofNat) ∧ Ch.Fits (Ch.un ws d) (d.reverse.map Int.ofNat) ∧ Ch.pk (Ch.un ws d) (d.reverse.map Int.ofNat) (d.reverse.map Int.ofNat).length = ws ∧ Ch.prev (d.reverse.map Int.ofNat) (d.reverse.map Int.ofNat).length + 1 = head := by
  unfold Ch.R at h
  split at h
  · rename_i hh
    obtain ⟨h1, h2, h3⟩ := Ch.taken hw d head.toNat (by omega) h
    have hl : (d.reverse.map Int.ofNat).length = d.length := by simp
    have hrD : ∀ q, 0 ≤ ws.getD q 0 ∧ ws.getD q 0 < 4294967296 := fun q => by
      rw [List.getD_eq_getElem?_getD]
      cases hq : ws[q]? with
      | none => simp
      | some x => exact hr x (List.mem_of_getElem? hq)
    have hval : ∀ j, j < d.length → Ch.val (Ch.un ws d) (d.reverse.map Int.ofNat) j = ws.getD ((d.reverse.map Int.ofNat).getD j 0).toNat 0 / 65536 := fun j hj => by
      unfold Ch.val Ch.un
      rw [Ch.un_on ws _ d ws (Ch.taken_in hj)]
      have := Ch.at_ge h1 j (by omega)
      omega
    have h1' : Ch.Rises (Ch.un ws d).length (d.reverse.map Int.ofNat) := by rw [Ch.un_length]; exact h1
    refine ⟨h1', fun k hk => ?_, ?_, by rw [hl, h2]; omega⟩
    · rw [hval k (by omega)]
      have := hrD ((d.reverse.map Int.ofNat).getD k 0).toNat
      omega
    · refine Ch.ext (by rw [Ch.pk_len, Ch.un_length]) (fun q hq => ?_)
      by_cases hd : q ∈ d
      · obtain ⟨j, hj, rfl⟩ := Ch.mem_taken hd
        rw [Ch.pk_on h1' _ (Nat.le_refl _) j (by omega), hval j hj, ← h3 j (by omega)]
        omega
      · rw [Ch.pk_off (q := q) _ (fun j hj e => hd (by rw [← e]; exact Ch.taken_in (by omega)))]
        exact Ch.un_off ws q d ws hd
  · cases h
end Go.Proofs.Ytpfgmfiegnkocaa
