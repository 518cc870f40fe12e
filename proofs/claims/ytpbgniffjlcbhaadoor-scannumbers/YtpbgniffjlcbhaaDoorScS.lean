/-
  Package scan, plainly: where tokens stand; a row whose first ones are moved. No Go function is named here.
-/
import Derived.Test.YtpbgniffjlcbhaaDoorScR
import Derived.Test.YtpbgniffjlcbhaaDoorSc0
namespace Go.Proofs.YtpbgniffjlcbhaaDoor
open Go.RowKit
set_option linter.unusedVariables false
set_option linter.unusedSimpArgs false
set_option maxRecDepth 100000
theorem Sc.one_pos {xs : List Int} {p : Int} {x : Sc.Tk × Nat} (h : Sc.one xs p = .ok x) : x.1.p = p := by
  cases xs with
  | nil => cases h
  | cons c r =>
    rw [Sc.one_cons] at h
    split at h
    · cases h; rfl
    · split at h
      · split at h
        · cases h; rfl
        · cases h
      · split at h
        · cases h; rfl
        · split at h
          · cases h; rfl
          · cases h
theorem Sc.run_pos : ∀ (f : Nat) (x : List Int) (p : Int) (l : List Sc.Tk), x.length ≤ f → Sc.run x p = .ok l → ∀ t ∈ l, p ≤ t.p ∧ t.p < p + (x.length : Int)
  | _, [], p, l, _, h => by cases h; simp
  | 0, a :: x, p, l, hl, _ => by simp at hl
  | f + 1, a :: x, p, l, hl, h => by
    simp only [List.length_cons] at hl
    by_cases ha : a = 59
    · subst ha; cases h; simp
    cases hb : Sc.blank a with
    | true =>
      rw [Sc.run_blank _ _ hb] at h
      intro t ht
      have := Sc.run_pos f x _ l (by omega) h t ht
      simp only [List.length_cons]
      omega
    | false =>
      cases ho : Sc.one (a :: x) p with
      | error e => rw [Sc.run_err ha hb ho] at h; cases h
      | ok t =>
        rw [Sc.run_tok ha hb ho] at h
        obtain ⟨g1, g2⟩ := Sc.one_size ho
        obtain ⟨m, h1, rfl⟩ := Sc.pre_ok h
        have hd : ((a :: x).drop t.2).length = (a :: x).length - t.2 := List.length_drop
        have h4 := Sc.run_pos f _ _ m (by rw [hd]; simp only [List.length_cons] at g2 ⊢; omega) h1
        rw [hd] at h4
        intro u hu
        rcases List.mem_cons.1 hu with rfl | hu
        · rw [Sc.one_pos ho]
          simp only [List.length_cons]
          omega
        · have := h4 u hu
          omega
theorem Sc.line_pos {x : List Int} {l : List Sc.Tk} (h : Sc.line x = .ok l) : ∀ t ∈ l, 0 ≤ t.p ∧ t.p < (x.length : Int) := fun t ht => by
  have := Sc.run_pos x.length x 0 l (Nat.le_refl _) h t ht
  omega
/-- the first ones moved -/
def Sc.half (d : Int) (xs : List Sc.Tk) (k : Nat) : List Sc.Tk := (xs.take k).map (Sc.mv d) ++ xs.drop k
theorem Sc.half_zero (d : Int) (xs : List Sc.Tk) : Sc.half d xs 0 = xs := rfl
theorem Sc.half_all (d : Int) (xs : List Sc.Tk) (k : Nat) (h : xs.length = k) : Sc.half d xs k = xs.map (Sc.mv d) := by
  unfold Sc.half
  rw [List.take_of_length_le (by omega), List.drop_eq_nil_of_le (by omega), List.append_nil]
theorem Sc.half_len (d : Int) (xs : List Sc.Tk) (k : Nat) : (Sc.half d xs k).length = xs.length := by
  unfold Sc.half
  simp only [List.length_append, List.length_map, List.length_take, List.length_drop]
  omega
theorem Sc.half_tk (d : Int) {xs : List Sc.Tk} {k : Nat} (h : k < xs.length) : Sc.tk (Sc.half d xs k) k = Sc.tk xs k := by
  have hl : ((xs.take k).map (Sc.mv d)).length = k := by simp; omega
  unfold Sc.tk Sc.half
  rw [List.getD_eq_getElem?_getD, List.getD_eq_getElem?_getD, List.getElem?_append_right (by omega), hl, Nat.sub_self, List.getElem?_drop, Nat.add_zero]
theorem Sc.half_set (d p : Int) {xs : List Sc.Tk} {k : Nat} (h : k < xs.length) (hp : p = (Sc.tk xs k).p + d) : (Sc.half d xs k).set k { Sc.tk (Sc.half d xs k) k with p := p } = Sc.half d xs (k + 1) := by
  rw [Sc.half_tk d h, hp]
  have hl : ((xs.take k).map (Sc.mv d)).length = k := by simp; omega
  unfold Sc.half
  rw [List.set_append_right _ _ (by omega), hl, Nat.sub_self, List.take_add_one, Sc.tk_get h, List.map_append]
  have hd : xs.drop k = Sc.tk xs k :: xs.drop (k + 1) := by
    have h1 := Sc.tk_get h
    rw [List.drop_eq_getElem_cons h]
    rw [List.getElem?_eq_getElem h] at h1
    rw [Option.some.inj h1]
  rw [hd, List.set_cons_zero, List.append_assoc]
  rfl
theorem Sc.mv_mv (k : Int) (l : List Sc.Tk) : (l.map (Sc.mv k)).map (Sc.mv (-k)) = l := by
  rw [List.map_map]
  have : (Sc.mv (-k) ∘ Sc.mv k) = id := by
    funext t
    show ({ t with p := t.p + k + -k } : Sc.Tk) = t
    rw [show t.p + k + -k = t.p by omega]
  rw [this, List.map_id]
theorem Sc.mv_mem {k : Int} {l : List Sc.Tk} {t : Sc.Tk} (h : t ∈ l.map (Sc.mv k)) : ∃ u ∈ l, t = Sc.mv k u := by
  obtain ⟨u, h1, h2⟩ := List.mem_map.1 h
  exact ⟨u, h1, h2.symm⟩
theorem Sc.mv_byt {k : Int} {l : List Sc.Tk} (h : ∀ y ∈ l, L.Byt y.t) : ∀ y ∈ l.map (Sc.mv k), L.Byt y.t := fun y hy => by
  obtain ⟨u, h1, rfl⟩ := Sc.mv_mem hy
  exact h u h1
/-- a row of the call's own where a block ahead of it has turned -/
theorem Oz.ahead {e : TypeId} {base n c g : Nat} {A : Option Addr} {ys : List Sc.Tk} {w : World} (h : Oz e base A n c ys w) (hg : g < base) (j : Nat) (v : Value) : Oz e base A n c ys (w.setCell ⟨g, j, Option.none⟩ v) := by
  rcases h.cases with ⟨rfl, rfl, rfl, rfl⟩ | ⟨g', rfl, h⟩
  · exact Oz.none _ _ _
  · obtain ⟨h1, h2, h3, h4, cur, h5, h6, h7⟩ := h.has
    exact Oz.mk' h1 h2 h3 h4 cur (h5.other (by show g' ≠ g; omega) v) h6 h7
end Go.Proofs.YtpbgniffjlcbhaaDoor
