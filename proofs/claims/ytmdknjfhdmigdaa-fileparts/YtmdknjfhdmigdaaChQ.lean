/-
  What the laws of package chain need, plainly. No Go function is named here.
-/
import Derived.Test.YtmdknjfhdmigdaaCh6
import Derived.Test.YtmdknjfhdmigdaaCh8
import Derived.Test.YtmdknjfhdmigdaaLe2
namespace Go.Proofs.Ytmdknjfhdmigdaa
open Go.RowKit
set_option linter.unusedVariables false
set_option linter.unusedSimpArgs false
set_option maxRecDepth 100000
theorem Ch.p_nil (ws : List Int) : Ch.pE ws [] = 0 ∧ Ch.pH ws [] = 0 ∧ Ch.pW ws [] = ws := by
  have hR : Ch.Rises ws.length [] := fun k hk => by simp at hk
  have hF : Ch.Fits ws [] := fun k hk => by simp at hk
  obtain ⟨a, b, c⟩ := Ch.pE_yes hR hF
  exact ⟨a, by rw [b]; rfl, by rw [c]; rfl⟩
theorem Ch.R_zero (ws : List Int) : Ch.R ws 0 = some [] := by
  unfold Ch.R
  rw [if_pos (by omega)]; rfl
theorem Ch.R_out {ws : List Int} {h : Int} (hh : h < 0 ∨ (ws.length : Int) < h) : Ch.R ws h = none := by
  unfold Ch.R
  rw [if_neg (by omega)]
theorem Ch.not_end {m : Nat} (ss : List Int) {x : Int} (h : (m : Int) ≤ x) : ¬ Ch.Rises m (ss ++ [x]) := fun r => by
  have := (r ss.length (by simp)).2.1
  rw [Ch.getD_last] at this
  omega
theorem Ch.not_neg (m : Nat) : ¬ Ch.Rises m [-1] := fun r => by
  have := (r 0 (by simp)).1
  exact absurd this (by decide)
theorem Ch.pE_7 {ws ss : List Int} (h : ¬ Ch.Rises ws.length ss) : Ch.pE ws ss = 7 := (Ch.pE_no h).1
theorem Ch.uE_10 {ws : List Int} {h : Int} (hh : Ch.R ws h = none) : Ch.uE (Ch.R ws h) = 10 := by rw [hh]; rfl
/-- the first k sites' words fit -/
def Ch.FitsTo (ws ss : List Int) (k : Nat) : Prop := ∀ j, j < k → Ch.val ws ss j ≤ 65535
instance (ws ss : List Int) (k : Nat) : Decidable (Ch.FitsTo ws ss k) := Nat.decidableBallLT k (fun j _ => Ch.val ws ss j ≤ 65535)
theorem Ch.fitsTo_succ {ws ss : List Int} {k : Nat} (h : Ch.FitsTo ws ss k) (h1 : Ch.val ws ss k ≤ 65535) : Ch.FitsTo ws ss (k + 1) := fun j hj => by
  rcases Nat.lt_or_ge j k with c | c
  · exact h j c
  · rw [show j = k by omega]; exact h1
theorem Ch.set_fits {vs ss : List Int} {k q : Nat} {x : Int} (h : ∀ j, j < k → vs.getD (ss.getD j 0).toNat 0 ≤ 65535) (hq : (ss.getD k 0).toNat = q) (hx : x ≤ 65535) (hl : q < vs.length) : ∀ j, j < k + 1 → (vs.set q x).getD (ss.getD j 0).toNat 0 ≤ 65535 := fun j hj => by
  rw [Ch.getD_set]
  split
  · exact hx
  · rename_i c
    rcases Nat.lt_or_ge j k with d | d
    · exact h j d
    · rw [show j = k by omega] at c ⊢
      exact absurd ⟨hq.symm, by omega⟩ c
/-- each later link turned back: no chain -/
theorem Ch.R_turned {W S : List Int} (hR : Ch.Rises W.length S) (i : Nat) (hi : i < S.length) (q : Nat) (hq : S.getD i 0 = (q : Int)) (x : Int) (hx : x % 65536 = (q : Int) + 1) : Ch.R ((Ch.pk W S S.length).set q x) (Ch.prev S S.length + 1) = none := by
  have h1 := Ch.prev_ge hR S.length (Nat.le_refl _)
  have h2 := Ch.prev_lt hR S.length (Nat.le_refl _)
  have ha := Ch.at_ge hR i hi
  unfold Ch.R
  rw [List.length_set, Ch.pk_len, if_pos (by omega)]
  refine Ch.turned hR i hi (fun j hj hji => ?_) ?_ S.length hi (Nat.le_refl _)
  · rw [Ch.getD_set, if_neg (fun e => Ch.apart hR j i hj hi hji (by rw [hq, Int.toNat_natCast]; exact e.1.symm))]
    exact Ch.pk_has hR j hj
  · rw [hq, Int.toNat_natCast, Ch.getD_set, if_pos ⟨rfl, by rw [Ch.pk_len]; omega⟩]
    exact hx
/-- a word that is no site stays -/
theorem Ch.pk_stays {W S : List Int} {q : Nat} (h : ∀ j, j < S.length → S.getD j 0 ≠ (q : Int)) (hR : Ch.Rises W.length S) : (Ch.pk W S S.length).getD q 0 = W.getD q 0 :=
  Ch.pk_off S.length fun j hj e => h j hj (by have := Ch.at_ge hR j hj; omega)
theorem Ch.un_rng {ws : List Int} (hw : ∀ x ∈ ws, 0 ≤ x ∧ x < 4294967296) : ∀ (d : List Nat) (v : List Int), (∀ x ∈ v, 0 ≤ x ∧ x < 4294967296) → ∀ x ∈ d.foldl (fun v s => v.set s (ws.getD s 0 / 65536)) v, 0 ≤ x ∧ x < 4294967296
  | [], v, hv => hv
  | s :: d, v, hv => by
    rw [List.foldl_cons]
    refine Ch.un_rng hw d _ fun x hx => ?_
    rcases List.mem_or_eq_of_mem_set hx with q | q
    · exact hv x q
    · have : 0 ≤ ws.getD s 0 ∧ ws.getD s 0 < 4294967296 := by
        rw [List.getD_eq_getElem?_getD]
        cases hq : ws[s]? with
        | none => simp
        | some y => exact hw y (List.mem_of_getElem? hq)
      omega
theorem Ch.uW_rng {ws : List Int} (hw : ∀ x ∈ ws, 0 ≤ x ∧ x < 4294967296) (r : Option (List Nat)) : ∀ x ∈ Ch.uW ws r, 0 ≤ x ∧ x < 4294967296 := by
  cases r with
  | none => intro x hx; cases hx
  | some d => exact Ch.un_rng hw d ws hw
/-- what Unpack tells: nothing, or a chain -/
theorem Ch.u_cases {w w' : World} {A B : Option Addr} {n c m d : Nat} {ws : List Int} {r : Option (List Nat)} (hU : Rg .u32 w A n c (Ch.uW ws r)) (hV : Rg .i64 w' B m d (Ch.uS r)) : (Ch.uE r = 10 ∧ 0 = n ∧ 0 = m) ∨ (Ch.uE r = 0 ∧ ∃ t, r = some t) := by
  cases r with
  | none => exact Or.inl ⟨rfl, hU.len, hV.len⟩
  | some t => exact Or.inr ⟨rfl, t, rfl⟩
theorem Ch.packs_again {ws : List Int} (hw : ws.length ≤ 65535) (hr : ∀ x ∈ ws, 0 ≤ x ∧ x < 4294967296) {head : Int} {d : List Nat} (h : Ch.R ws head = some d) :
    Ch.pE (Ch.uW ws (some d)) (Ch.uS (some d)) = 0 ∧ Ch.pH (Ch.uW ws (some d)) (Ch.uS (some d)) = head ∧ Ch.pW (Ch.uW ws (some d)) (Ch.uS (some d)) = ws := by
  obtain ⟨h1, h2, h3, h4⟩ := Ch.again hw hr h
  obtain ⟨e1, e2, e3⟩ := Ch.pE_yes h1 h2
  exact ⟨e1, e2.trans h4, e3.trans h3⟩
theorem Ch.u_back {W S : List Int} (hR : Ch.Rises W.length S) : Ch.R (Ch.pk W S S.length) (Ch.prev S S.length + 1) = some (Ch.down S S.length) ∧ Ch.uW (Ch.pk W S S.length) (some (Ch.down S S.length)) = W ∧ Ch.uS (some (Ch.down S S.length)) = S :=
  ⟨Ch.back hR, Ch.back_words hR, Ch.down_all hR⟩
theorem Ch.turn_word (x p : Int) (x0 : 0 ≤ x) (x1 : x < 4294967296) (p0 : 0 ≤ p) (p1 : p < 65535) : bits .or .u32 (bits .andNot .u32 x 65535) (p + 1) = x / 65536 * 65536 + (p + 1) := by
  rw [Ch.not_low x x0 x1]
  exact Ch.or_join (x / 65536) (p + 1) (by omega) (by omega) (by omega) (by omega)
/-- one site -/
theorem Ch.one_site {V : List Int} {hi : Nat} {x : Int} (h1 : hi < V.length) (h2 : hi ≤ 65534) (hx : V.getD hi 0 = x) (x1 : x ≤ 65535) :
    Ch.Rises V.length [(hi : Int)] ∧ Ch.pE V [(hi : Int)] = 0 ∧ Ch.pH V [(hi : Int)] = (hi : Int) + 1 ∧ Ch.pW V [(hi : Int)] = V.set hi (x * 65536) ∧ ∀ y, y % 65536 = (hi : Int) + 1 → Ch.R ((V.set hi (x * 65536)).set hi y) ((hi : Int) + 1) = none := by
  have hR : Ch.Rises V.length [(hi : Int)] := fun k hk => by
    obtain rfl : k = 0 := by simpa using hk
    refine ⟨?_, ?_, ?_⟩
    · show (-1 : Int) < (hi : Int); omega
    · show (hi : Int) < _; omega
    · show (hi : Int) ≤ _; omega
  have hF : Ch.Fits V [(hi : Int)] := fun k hk => by
    obtain rfl : k = 0 := by simpa using hk
    show V.getD (hi : Int).toNat 0 ≤ _
    rw [Int.toNat_natCast, hx]; exact x1
  have hp : Ch.pk V [(hi : Int)] 1 = V.set hi (x * 65536) := by
    show V.set (hi : Int).toNat (V.getD (hi : Int).toNat 0 * 65536 + ((-1 : Int) + 1)) = _
    rw [Int.toNat_natCast, hx]; congr 1; omega
  obtain ⟨e1, e2, e3⟩ := Ch.pE_yes hR hF
  refine ⟨hR, e1, e2, e3.trans hp, fun y hy => ?_⟩
  have := Ch.R_turned hR 0 (by simp) hi rfl y hy
  rw [show [(hi : Int)].length = 1 from rfl, hp] at this
  exact this
/-- two sites -/
theorem Ch.two_sites {V : List Int} {lo hi : Nat} {x y : Int} (h0 : lo < hi) (h1 : hi < V.length) (h2 : hi ≤ 65534) (hx : V.getD lo 0 = x) (hy : V.getD hi 0 = y) (x1 : x ≤ 65535) (y1 : y ≤ 65535) :
    Ch.pE V [(lo : Int), (hi : Int)] = 0 ∧ Ch.pH V [(lo : Int), (hi : Int)] = (hi : Int) + 1 ∧ Ch.pW V [(lo : Int), (hi : Int)] = (V.set lo (x * 65536)).set hi (y * 65536 + ((lo : Int) + 1)) := by
  have hR : Ch.Rises V.length [(lo : Int), (hi : Int)] := fun k hk => by
    match k, hk with
    | 0, _ =>
      refine ⟨?_, ?_, ?_⟩
      · show (-1 : Int) < (lo : Int); omega
      · show (lo : Int) < _; omega
      · show (lo : Int) ≤ _; omega
    | 1, _ =>
      refine ⟨?_, ?_, ?_⟩
      · show (lo : Int) < (hi : Int); omega
      · show (hi : Int) < _; omega
      · show (hi : Int) ≤ _; omega
  have hF : Ch.Fits V [(lo : Int), (hi : Int)] := fun k hk => by
    match k, hk with
    | 0, _ =>
      show V.getD (lo : Int).toNat 0 ≤ _
      rw [Int.toNat_natCast, hx]; exact x1
    | 1, _ =>
      show V.getD (hi : Int).toNat 0 ≤ _
      rw [Int.toNat_natCast, hy]; exact y1
  have hp : Ch.pk V [(lo : Int), (hi : Int)] 2 = (V.set lo (x * 65536)).set hi (y * 65536 + ((lo : Int) + 1)) := by
    show (V.set (lo : Int).toNat (V.getD (lo : Int).toNat 0 * 65536 + ((-1 : Int) + 1))).set (hi : Int).toNat (V.getD (hi : Int).toNat 0 * 65536 + ((lo : Int) + 1)) = _
    rw [Int.toNat_natCast, Int.toNat_natCast, hx, hy, show x * 65536 + ((-1 : Int) + 1) = x * 65536 by omega]
  obtain ⟨e1, e2, e3⟩ := Ch.pE_yes hR hF
  exact ⟨e1, e2, e3.trans hp⟩
theorem Ch.not_down {m : Nat} {a b : Int} (h : b ≤ a) : ¬ Ch.Rises m [a, b] := fun r => by
  have : a < b := (r 1 (by simp)).1
  omega
theorem Ch.set_rng {l : List Int} (h : ∀ x ∈ l, 0 ≤ x ∧ x < 4294967296) (i : Nat) {y : Int} (y0 : 0 ≤ y) (y1 : y < 4294967296) : ∀ x ∈ l.set i y, 0 ≤ x ∧ x < 4294967296 := fun x hx => (mem_set hx).elim (h x) (fun e => by rw [e]; exact ⟨y0, y1⟩)
end Go.Proofs.Ytmdknjfhdmigdaa
