/-
  Package object, plainly: the order of strings, names that rise, which objects may be, the document's Fit. No Go function is named here.
-/
import Derived.Test.YtpfgmfiegnkocaaM01
import Derived.Test.YtpfgmfiegnkocaaM03
namespace Go.Proofs.Ytpfgmfiegnkocaa
open Go.RowKit
set_option linter.unusedVariables false
set_option linter.unusedSimpArgs false
set_option maxRecDepth 100000
/-- a name and its place -/
abbrev Ob.Y := ByteArray × Int
theorem Ob.bl_trans : ∀ a b c : List UInt8, Op.bytesLess a b = true → Op.bytesLess b c = true → Op.bytesLess a c = true
  | [], b, [], h, k => by cases b <;> simp [Op.bytesLess] at k
  | [], _, _ :: _, _, _ => by simp [Op.bytesLess]
  | _ :: _, [], _, h, _ => by simp [Op.bytesLess] at h
  | _ :: _, _ :: _, [], _, k => by simp [Op.bytesLess] at k
  | x :: a, y :: b, z :: c, h, k => by
    simp only [Op.bytesLess, Bool.or_eq_true, decide_eq_true_eq, Bool.and_eq_true, beq_iff_eq] at h k ⊢
    rcases h with h | ⟨rfl, h⟩
    · rcases k with k | ⟨rfl, k⟩
      · exact Or.inl (UInt8.lt_trans h k)
      · exact Or.inl h
    · rcases k with k | ⟨rfl, k⟩
      · exact Or.inl k
      · exact Or.inr ⟨rfl, Ob.bl_trans a b c h k⟩
theorem Ob.bl_irr : ∀ a : List UInt8, Op.bytesLess a a = false
  | [] => rfl
  | x :: a => by simp [Op.bytesLess, Ob.bl_irr a]
theorem Ob.bl_tri : ∀ a b : List UInt8, Op.bytesLess a b = false → Op.bytesLess b a = false → a = b
  | [], [], _, _ => rfl
  | [], _ :: _, h, _ => by simp [Op.bytesLess] at h
  | _ :: _, [], _, h => by simp [Op.bytesLess] at h
  | x :: a, y :: b, h, k => by
    simp only [Op.bytesLess, Bool.or_eq_false_iff, decide_eq_false_iff_not, Bool.and_eq_false_iff, beq_eq_false_iff_ne, ne_eq] at h k
    have e : x = y := by
      have h1 := h.1
      have k1 := k.1
      rw [UInt8.lt_iff_toNat_lt] at h1 k1
      exact UInt8.toNat_inj.1 (by omega)
    subst e
    have h2 := h.2.resolve_left (fun q => q rfl)
    have k2 := k.2.resolve_left (fun q => q rfl)
    rw [Ob.bl_tri a b h2 k2]
/-- the one string is below the other one, byte by byte -/
def Ob.bl (a b : ByteArray) : Bool := Op.bytesLess a.toList b.toList
theorem Ob.toList_inj {a b : ByteArray} (h : a.toList = b.toList) : a = b := by
  rw [Lib.toList_data, Lib.toList_data] at h
  obtain ⟨⟨a⟩⟩ := a
  obtain ⟨⟨b⟩⟩ := b
  simpa using h
theorem Ob.lt_trans {a b c : ByteArray} (h : Ob.bl a b = true) (k : Ob.bl b c = true) : Ob.bl a c = true := Ob.bl_trans _ _ _ h k
theorem Ob.lt_irr (a : ByteArray) : Ob.bl a a = false := Ob.bl_irr _
theorem Ob.lt_ne {a b : ByteArray} (h : Ob.bl a b = true) : a ≠ b := fun e => by rw [e, Ob.lt_irr] at h; cases h
theorem Ob.lt_of {a b : ByteArray} (h : Ob.bl a b = false) (hn : a ≠ b) : Ob.bl b a = true := by
  cases q : Ob.bl b a with
  | true => rfl
  | false => exact absurd (Ob.toList_inj (Ob.bl_tri _ _ h q)) hn
/-- s <= t, as the walk writes it -/
theorem Ob.le_not {a b : ByteArray} (h : Ob.bl b a = true) : (Op.bytesLess a.toList b.toList || a.toList == b.toList) = false := by
  have h1 : Op.bytesLess a.toList b.toList = false := by
    cases q : Op.bytesLess a.toList b.toList with
    | false => rfl
    | true => have := Ob.bl_trans _ _ _ h q; rw [Ob.bl_irr] at this; cases this
  have h2 : (a.toList == b.toList) = false := by
    cases q : a.toList == b.toList with
    | false => rfl
    | true => rw [beq_iff_eq] at q; unfold Ob.bl at h; rw [q, Ob.bl_irr] at h; cases h
  rw [h1, h2]; rfl
theorem Ob.le_yes {a b : ByteArray} (h : Ob.bl b a = false) : (Op.bytesLess a.toList b.toList || a.toList == b.toList) = true := by
  cases q : Op.bytesLess a.toList b.toList with
  | true => rfl
  | false => rw [Ob.bl_tri _ _ h q]; simp
def Ob.e0 : ByteArray := ⟨#[]⟩
theorem Ob.lt_empty {a : ByteArray} (h : 0 < a.size) : Ob.bl Ob.e0 a = true := by
  unfold Ob.bl Ob.e0
  rw [Lib.toList_data, Lib.toList_data]
  obtain ⟨⟨l⟩⟩ := a
  cases l with
  | nil => exact absurd h (by decide)
  | cons x l => rfl
/-- the name of a number, its place, and the name ahead of it -/
def Ob.nm (ys : List Ob.Y) (k : Nat) : ByteArray := (ys.getD k (Ob.e0, 0)).1
def Ob.pl (ys : List Ob.Y) (k : Nat) : Int := (ys.getD k (Ob.e0, 0)).2
def Ob.pr (ys : List Ob.Y) : Nat → ByteArray
  | 0 => Ob.e0
  | k + 1 => Ob.nm ys k
/-- a name that may stand there -/
def Ob.OkN (ys : List Ob.Y) (k : Nat) : Prop := L.name (L.bs (Ob.nm ys k)) = true ∧ Ob.bl (Ob.pr ys k) (Ob.nm ys k) = true
instance (ys : List Ob.Y) (k : Nat) : Decidable (Ob.OkN ys k) := inferInstanceAs (Decidable (_ ∧ _))
def Ob.Names (ys : List Ob.Y) : Prop := ∀ k, k < ys.length → Ob.OkN ys k
instance (ys : List Ob.Y) : Decidable (Ob.Names ys) := Nat.decidableBallLT ys.length (fun k _ => Ob.OkN ys k)
/-- a place that may be, up to an end -/
def Ob.OkP (e : Int) (ys : List Ob.Y) (k : Nat) : Prop := 0 ≤ Ob.pl ys k ∧ Ob.pl ys k ≤ e ∧ Ob.pl ys k % 4 = 0
instance (e : Int) (ys : List Ob.Y) (k : Nat) : Decidable (Ob.OkP e ys k) := inferInstanceAs (Decidable (_ ∧ _ ∧ _))
def Ob.Places (e : Int) (ys : List Ob.Y) : Prop := ∀ k, k < ys.length → Ob.OkP e ys k
instance (e : Int) (ys : List Ob.Y) : Decidable (Ob.Places e ys) := Nat.decidableBallLT ys.length (fun k _ => Ob.OkP e ys k)
/-- the sites' words lead to no place beyond -/
def Ob.LowAt (ws ss : List Int) (k : Nat) : Prop := Ch.val ws ss k ≤ 4 * (ws.length : Int)
instance (ws ss : List Int) (k : Nat) : Decidable (Ob.LowAt ws ss k) := inferInstanceAs (Decidable (_ ≤ _))
def Ob.Low (ws ss : List Int) : Prop := ∀ k, k < ss.length → Ob.LowAt ws ss k
instance (ws ss : List Int) : Decidable (Ob.Low ws ss) := Nat.decidableBallLT ss.length (fun k _ => Ob.LowAt ws ss k)
/-- P9.1 -/
def Ob.may (ws ss : List Int) (ys : List Ob.Y) : Int :=
  if 1024 < ws.length ∨ 64 < ys.length then 2 else if Ch.Rises ws.length ss then (if Ob.Low ws ss then (if Ob.Names ys then (if Ob.Places (4 * (ws.length : Int)) ys then 0 else 8) else 9) else 8) else 7
/-- P9.2 -/
def Ob.same (ws ss : List Int) (ys : List Ob.Y) (ws' ss' : List Int) (ys' : List Ob.Y) : Bool := decide (ws = ws' ∧ ss = ss' ∧ ys = ys')
theorem Ob.same_self (ws ss : List Int) (ys : List Ob.Y) : Ob.same ws ss ys ws ss ys = true := decide_eq_true ⟨rfl, rfl, rfl⟩
theorem Ob.same_comm (ws ss : List Int) (ys : List Ob.Y) (ws' ss' : List Int) (ys' : List Ob.Y) : Ob.same ws ss ys ws' ss' ys' = Ob.same ws' ss' ys' ws ss ys := by
  unfold Ob.same
  apply decide_eq_decide.2
  exact ⟨fun h => ⟨h.1.symm, h.2.1.symm, h.2.2.symm⟩, fun h => ⟨h.1.symm, h.2.1.symm, h.2.2.symm⟩⟩
theorem Ob.same_not {ws ss : List Int} {ys : List Ob.Y} {ws' ss' : List Int} {ys' : List Ob.Y} (h : ws ≠ ws' ∨ ss ≠ ss' ∨ ys ≠ ys') : Ob.same ws ss ys ws' ss' ys' = false := by
  unfold Ob.same
  refine decide_eq_false fun ⟨h1, h2, h3⟩ => ?_
  rcases h with h | h | h
  · exact h h1
  · exact h h2
  · exact h h3
theorem Ob.may_2 {ws ss : List Int} {ys : List Ob.Y} (h : 1024 < ws.length ∨ 64 < ys.length) : Ob.may ws ss ys = 2 := by unfold Ob.may; rw [if_pos h]
theorem Ob.may_7 {ws ss : List Int} {ys : List Ob.Y} (h : ¬ (1024 < ws.length ∨ 64 < ys.length)) (h1 : ¬ Ch.Rises ws.length ss) : Ob.may ws ss ys = 7 := by unfold Ob.may; rw [if_neg h, if_neg h1]
theorem Ob.may_8 {ws ss : List Int} {ys : List Ob.Y} (h : ¬ (1024 < ws.length ∨ 64 < ys.length)) (h1 : Ch.Rises ws.length ss) (h2 : ¬ Ob.Low ws ss) : Ob.may ws ss ys = 8 := by unfold Ob.may; rw [if_neg h, if_pos h1, if_neg h2]
theorem Ob.may_9 {ws ss : List Int} {ys : List Ob.Y} (h : ¬ (1024 < ws.length ∨ 64 < ys.length)) (h1 : Ch.Rises ws.length ss) (h2 : Ob.Low ws ss) (h3 : ¬ Ob.Names ys) : Ob.may ws ss ys = 9 := by unfold Ob.may; rw [if_neg h, if_pos h1, if_pos h2, if_neg h3]
theorem Ob.may_88 {ws ss : List Int} {ys : List Ob.Y} (h : ¬ (1024 < ws.length ∨ 64 < ys.length)) (h1 : Ch.Rises ws.length ss) (h2 : Ob.Low ws ss) (h3 : Ob.Names ys) (h4 : ¬ Ob.Places (4 * (ws.length : Int)) ys) : Ob.may ws ss ys = 8 := by unfold Ob.may; rw [if_neg h, if_pos h1, if_pos h2, if_pos h3, if_neg h4]
theorem Ob.may_0 {ws ss : List Int} {ys : List Ob.Y} (h : ¬ (1024 < ws.length ∨ 64 < ys.length)) (h1 : Ch.Rises ws.length ss) (h2 : Ob.Low ws ss) (h3 : Ob.Names ys) (h4 : Ob.Places (4 * (ws.length : Int)) ys) : Ob.may ws ss ys = 0 := by unfold Ob.may; rw [if_neg h, if_pos h1, if_pos h2, if_pos h3, if_pos h4]
/-! names that rise, as a list -/
def Ob.Good (s : ByteArray) : Prop := L.name (L.bs s) = true
def Ob.Rise (ys : List Ob.Y) : Prop := (∀ y ∈ ys, Ob.Good y.1) ∧ ys.Pairwise (fun a b => Ob.bl a.1 b.1 = true)
theorem Ob.nm_get {ys : List Ob.Y} {k : Nat} (h : k < ys.length) : Ob.nm ys k = (ys[k]).1 := by
  unfold Ob.nm
  rw [List.getD_eq_getElem?_getD, List.getElem?_eq_getElem h]; rfl
theorem Ob.pl_get {ys : List Ob.Y} {k : Nat} (h : k < ys.length) : Ob.pl ys k = (ys[k]).2 := by
  unfold Ob.pl
  rw [List.getD_eq_getElem?_getD, List.getElem?_eq_getElem h]; rfl
theorem Ob.at_get {ys : List Ob.Y} {k : Nat} (h : k < ys.length) : ys[k]? = some (Ob.nm ys k, Ob.pl ys k) := by
  rw [Ob.nm_get h, Ob.pl_get h, List.getElem?_eq_getElem h]
theorem Ob.good_size {s : ByteArray} (h : Ob.Good s) : 0 < s.size := by
  unfold Ob.Good L.name at h
  simp only [Bool.and_eq_true, decide_eq_true_eq] at h
  have := h.1.1.1.1
  rw [L.bs_len] at this
  omega
theorem Ob.names_lt {ys : List Ob.Y} (h : Ob.Names ys) : ∀ j, j < ys.length → ∀ i, i < j → Ob.bl (Ob.nm ys i) (Ob.nm ys j) = true
  | 0, _, i, hi => by omega
  | j + 1, hj, i, hi => by
    have h1 : Ob.bl (Ob.nm ys j) (Ob.nm ys (j + 1)) = true := (h (j + 1) hj).2
    rcases Nat.lt_or_ge i j with c | c
    · exact Ob.lt_trans (Ob.names_lt h j (by omega) i c) h1
    · rw [show i = j by omega]; exact h1
theorem Ob.names_iff (ys : List Ob.Y) : Ob.Names ys ↔ Ob.Rise ys := by
  constructor
  · intro h
    refine ⟨fun y hy => ?_, List.pairwise_iff_getElem.2 fun i j hi hj hij => ?_⟩
    · obtain ⟨k, hk, rfl⟩ := List.getElem_of_mem hy
      have := (h k hk).1
      rw [Ob.nm_get hk] at this
      exact this
    · have := Ob.names_lt h j hj i hij
      rw [Ob.nm_get hi, Ob.nm_get hj] at this
      exact this
  · intro h k hk
    have h1 : Ob.Good (Ob.nm ys k) := by rw [Ob.nm_get hk]; exact h.1 _ (List.getElem_mem hk)
    refine ⟨h1, ?_⟩
    cases k with
    | zero => exact Ob.lt_empty (Ob.good_size h1)
    | succ k =>
      show Ob.bl (Ob.nm ys k) _ = true
      rw [Ob.nm_get (show k < ys.length by omega), Ob.nm_get hk]
      exact List.pairwise_iff_getElem.1 h.2 k (k + 1) (by omega) hk (by omega)
theorem Ob.places_iff (e : Int) (ys : List Ob.Y) : Ob.Places e ys ↔ ∀ y ∈ ys, 0 ≤ y.2 ∧ y.2 ≤ e ∧ y.2 % 4 = 0 := by
  constructor
  · intro h y hy
    obtain ⟨k, hk, rfl⟩ := List.getElem_of_mem hy
    have := h k hk
    unfold Ob.OkP at this
    rwa [Ob.pl_get hk] at this
  · intro h k hk
    unfold Ob.OkP
    rw [Ob.pl_get hk]
    exact h _ (List.getElem_mem hk)
theorem Ob.low_iff (ws ss : List Int) : Ob.Low ws ss ↔ ∀ s ∈ ss, ws.getD s.toNat 0 ≤ 4 * (ws.length : Int) := by
  have hd : ∀ k (hk : k < ss.length), ss.getD k 0 = ss[k] := fun k hk => by rw [List.getD_eq_getElem?_getD, List.getElem?_eq_getElem hk]; rfl
  constructor
  · intro h s hs
    obtain ⟨k, hk, rfl⟩ := List.getElem_of_mem hs
    have := h k hk
    unfold Ob.LowAt Ch.val at this
    rwa [hd k hk] at this
  · intro h k hk
    unfold Ob.LowAt Ch.val
    rw [hd k hk]
    exact h _ (List.getElem_mem hk)
theorem Ob.rises_iff (m : Nat) (ss : List Int) : Ch.Rises m ss ↔ (∀ s ∈ ss, 0 ≤ s ∧ s < (m : Int) ∧ s ≤ 65534) ∧ ss.Pairwise (· < ·) := by
  have hd : ∀ k (hk : k < ss.length), ss.getD k 0 = ss[k] := fun k hk => by rw [List.getD_eq_getElem?_getD, List.getElem?_eq_getElem hk]; rfl
  constructor
  · intro h
    refine ⟨fun s hs => ?_, List.pairwise_iff_getElem.2 fun i j hi hj hij => ?_⟩
    · obtain ⟨k, hk, rfl⟩ := List.getElem_of_mem hs
      have := Ch.at_ge h k hk
      rwa [hd k hk] at this
    · have := Ch.mono h i j hij hj
      rwa [hd i hi, hd j hj] at this
  · intro ⟨h, hp⟩ k hk
    have h1 := h _ (List.getElem_mem hk)
    unfold Ch.OkAt
    rw [hd k hk]
    refine ⟨?_, h1.2.1, h1.2.2⟩
    cases k with
    | zero => show (-1 : Int) < _; omega
    | succ k =>
      show ss.getD k 0 < _
      rw [hd k (by omega)]
      exact List.pairwise_iff_getElem.1 hp k (k + 1) (by omega) hk (by omega)
/-! the document's Fit -/
/-- where a name is set in -/
def Ob.pos (ys : List Ob.Y) (s : ByteArray) : Nat := (ys.takeWhile (fun y => Ob.bl y.1 s)).length
theorem Ob.pos_of : ∀ (ys : List Ob.Y) (s : ByteArray) (k : Nat), k ≤ ys.length → (∀ j, j < k → Ob.bl (Ob.nm ys j) s = true) → (k = ys.length ∨ Ob.bl (Ob.nm ys k) s = false) → Ob.pos ys s = k
  | [], s, k, h, _, _ => by simp at h; subst h; rfl
  | y :: ys, s, 0, _, _, h => by
    have h1 : Ob.bl y.1 s = false := by
      rcases h with h | h
      · simp at h
      · exact h
    unfold Ob.pos
    rw [List.takeWhile_cons, h1]; rfl
  | y :: ys, s, k + 1, h, hj, hk => by
    have h1 : Ob.bl y.1 s = true := hj 0 (by omega)
    have := Ob.pos_of ys s k (by simpa using h) (fun j hj' => hj (j + 1) (by omega)) (by
      rcases hk with hk | hk
      · exact Or.inl (by simpa using hk)
      · exact Or.inr hk)
    unfold Ob.pos at this ⊢
    rw [List.takeWhile_cons, h1]
    simp [this]
theorem Ob.pos_le (ys : List Ob.Y) (s : ByteArray) : Ob.pos ys s ≤ ys.length := (List.takeWhile_sublist _).length_le
theorem Ob.pos_low (ys : List Ob.Y) (s : ByteArray) : ∀ y ∈ ys.take (Ob.pos ys s), Ob.bl y.1 s = true := by
  intro y hy
  have e : ys.take (Ob.pos ys s) = ys.takeWhile (fun y => Ob.bl y.1 s) := (List.prefix_iff_eq_take.1 (List.takeWhile_prefix _)).symm
  rw [e] at hy
  exact List.all_eq_true.1 (List.all_takeWhile (p := fun y : Ob.Y => Ob.bl y.1 s) (l := ys)) y hy
theorem Ob.pos_high : ∀ (ys : List Ob.Y) (s : ByteArray) (h : Ob.pos ys s < ys.length), Ob.bl (ys[Ob.pos ys s]).1 s = false
  | [], _, h => by simp at h
  | y :: ys, s, h => by
    cases q : Ob.bl y.1 s with
    | false =>
      have e : Ob.pos (y :: ys) s = 0 := by unfold Ob.pos; rw [List.takeWhile_cons, q]; rfl
      simp only [e]
      exact q
    | true =>
      have e : Ob.pos (y :: ys) s = Ob.pos ys s + 1 := by unfold Ob.pos; rw [List.takeWhile_cons, q]; simp
      simp only [e]
      exact Ob.pos_high ys s (by rw [e] at h; simpa using h)
def Ob.ins (ys : List Ob.Y) (s : ByteArray) (a : Int) : List Ob.Y :=
  if Ob.pos ys s < ys.length ∧ Ob.nm ys (Ob.pos ys s) = s then ys else ys.take (Ob.pos ys s) ++ (s, a) :: ys.drop (Ob.pos ys s)
theorem Ob.ins_mem {ys : List Ob.Y} {s : ByteArray} {a : Int} {y : Ob.Y} (h : y ∈ Ob.ins ys s a) : y ∈ ys ∨ y = (s, a) := by
  unfold Ob.ins at h
  split at h
  · exact Or.inl h
  · rcases List.mem_append.1 h with h | h
    · exact Or.inl (List.mem_of_mem_take h)
    · rcases List.mem_cons.1 h with h | h
      · exact Or.inr h
      · exact Or.inl (List.mem_of_mem_drop h)
theorem Ob.ins_len (ys : List Ob.Y) (s : ByteArray) (a : Int) : (Ob.ins ys s a).length ≤ ys.length + 1 := by
  unfold Ob.ins
  split
  · omega
  · simp; omega
theorem Ob.ins_rise {ys : List Ob.Y} {s : ByteArray} {a : Int} (h : Ob.Rise ys) (hs : Ob.Good s) : Ob.Rise (Ob.ins ys s a) := by
  refine ⟨fun y hy => ?_, ?_⟩
  · rcases Ob.ins_mem hy with q | q
    · exact h.1 y q
    · rw [q]; exact hs
  · unfold Ob.ins
    split
    · exact h.2
    · rename_i hn
      have hp := h.2
      rw [← List.take_append_drop (Ob.pos ys s) ys, List.pairwise_append] at hp
      obtain ⟨p1, p2, p3⟩ := hp
      have hhi : ∀ y ∈ ys.drop (Ob.pos ys s), Ob.bl s y.1 = true := by
        intro y hy
        rcases Nat.lt_or_ge (Ob.pos ys s) ys.length with c | c
        · have h1 := Ob.pos_high ys s c
          have h2 : Ob.bl s (ys[Ob.pos ys s]).1 = true := Ob.lt_of h1 (fun e => hn ⟨c, by rw [Ob.nm_get c]; exact e⟩)
          rw [List.drop_eq_getElem_cons c] at hy p2
          rcases List.mem_cons.1 hy with q | q
          · rw [q]; exact h2
          · exact Ob.lt_trans h2 ((List.pairwise_cons.1 p2).1 y q)
        · rw [List.drop_eq_nil_of_le c] at hy; simp at hy
      rw [List.pairwise_append, List.pairwise_cons]
      refine ⟨p1, ⟨hhi, p2⟩, fun x hx y hy => ?_⟩
      rcases List.mem_cons.1 hy with q | q
      · rw [q]; exact Ob.pos_low ys s x hx
      · exact p3 x hx y q
/-- Fit's names: of the first k strings -/
def Ob.fy (fs : ByteArray → ByteArray) (m : Nat) (ns : List ByteArray) : Nat → List Ob.Y
  | 0 => []
  | k + 1 => Ob.ins (Ob.fy fs m ns k) (fs (ns.getD k Ob.e0)) (4 * ((((ns.getD k Ob.e0).size : Int) + k) % ((m : Int) + 1)))
theorem Ob.fy_len (fs : ByteArray → ByteArray) (m : Nat) (ns : List ByteArray) : ∀ k, (Ob.fy fs m ns k).length ≤ k
  | 0 => Nat.le_refl _
  | k + 1 => Nat.le_trans (Ob.ins_len _ _ _) (by have := Ob.fy_len fs m ns k; omega)
theorem Ob.fy_rise {fs : ByteArray → ByteArray} (hf : ∀ s, Ob.Good (fs s)) (m : Nat) (ns : List ByteArray) : ∀ k, Ob.Rise (Ob.fy fs m ns k)
  | 0 => ⟨by simp [Ob.fy], List.Pairwise.nil⟩
  | k + 1 => Ob.ins_rise (Ob.fy_rise hf m ns k) (hf _)
theorem Ob.fy_mem {fs : ByteArray → ByteArray} {m : Nat} {ns : List ByteArray} {Q : Ob.Y → Prop} (h : ∀ k, Q (fs (ns.getD k Ob.e0), 4 * ((((ns.getD k Ob.e0).size : Int) + k) % ((m : Int) + 1)))) : ∀ k, ∀ y ∈ Ob.fy fs m ns k, Q y
  | 0, y, hy => by simp [Ob.fy] at hy
  | k + 1, y, hy => by
    rcases Ob.ins_mem hy with q | q
    · exact Ob.fy_mem h k y q
    · rw [q]; exact h k
theorem Ob.fy_place {fs : ByteArray → ByteArray} {m : Nat} {ns : List ByteArray} (k : Nat) : ∀ y ∈ Ob.fy fs m ns k, 0 ≤ y.2 ∧ y.2 ≤ 4 * (m : Int) ∧ y.2 % 4 = 0 :=
  Ob.fy_mem (Q := fun y => 0 ≤ y.2 ∧ y.2 ≤ 4 * (m : Int) ∧ y.2 % 4 = 0) (fun k => by
    have h1 := Int.emod_nonneg (((ns.getD k Ob.e0).size : Int) + k) (show (m : Int) + 1 ≠ 0 by omega)
    have h2 := Int.emod_lt_of_pos (((ns.getD k Ob.e0).size : Int) + k) (show (0 : Int) < (m : Int) + 1 by omega)
    generalize (((ns.getD k Ob.e0).size : Int) + k) % ((m : Int) + 1) = x at *
    refine ⟨?_, ?_, ?_⟩
    · show 0 ≤ 4 * x; omega
    · show 4 * x ≤ _; omega
    · show 4 * x % 4 = 0; omega) k
/-- Fit's words: of the first k sites -/
def Ob.fw (ws ss : List Int) : Nat → List Int
  | 0 => ws
  | k + 1 => (Ob.fw ws ss k).set (ss.getD k 0).toNat ((Ob.fw ws ss k).getD (ss.getD k 0).toNat 0 % (4 * (ws.length : Int) + 1))
theorem Ob.fw_len (ws ss : List Int) : ∀ k, (Ob.fw ws ss k).length = ws.length
  | 0 => rfl
  | k + 1 => by show ((Ob.fw ws ss k).set _ _).length = _; rw [List.length_set]; exact Ob.fw_len ws ss k
theorem Ob.fw_rng {ws : List Int} (ss : List Int) (hw : ∀ x ∈ ws, 0 ≤ x ∧ x < 4294967296) (hl : ws.length ≤ 1000000) : ∀ k, ∀ x ∈ Ob.fw ws ss k, 0 ≤ x ∧ x < 4294967296
  | 0 => hw
  | k + 1 => fun x hx => by
    rcases List.mem_or_eq_of_mem_set (show x ∈ (Ob.fw ws ss k).set _ _ from hx) with q | q
    · exact Ob.fw_rng ss hw hl k x q
    · have h1 := Int.emod_nonneg ((Ob.fw ws ss k).getD (ss.getD k 0).toNat 0) (show 4 * (ws.length : Int) + 1 ≠ 0 by omega)
      have h2 := Int.emod_lt_of_pos ((Ob.fw ws ss k).getD (ss.getD k 0).toNat 0) (show (0 : Int) < 4 * (ws.length : Int) + 1 by omega)
      omega
theorem Ob.fw_low (ws ss : List Int) : ∀ k, ∀ j, j < k → j < ss.length → (Ob.fw ws ss k).getD (ss.getD j 0).toNat 0 ≤ 4 * (ws.length : Int)
  | 0, j, hj, _ => by omega
  | k + 1, j, hj, hs => by
    show ((Ob.fw ws ss k).set _ _).getD _ 0 ≤ _
    rw [Ch.getD_set]
    split
    · have h2 := Int.emod_lt_of_pos ((Ob.fw ws ss k).getD (ss.getD k 0).toNat 0) (show (0 : Int) < 4 * (ws.length : Int) + 1 by omega)
      omega
    · rename_i hn
      rcases Nat.lt_or_ge j k with c | c
      · exact Ob.fw_low ws ss k j c hs
      · have e : j = k := by omega
        subst e
        have : ¬ (ss.getD j 0).toNat < (Ob.fw ws ss j).length := fun q => hn ⟨rfl, q⟩
        rw [List.getD_eq_getElem?_getD, List.getElem?_eq_none (by omega)]
        simp; omega
end Go.Proofs.Ytpfgmfiegnkocaa
