/-
  scan.Line: a scope with six labels. What holds at each of them, over the whole frame.
-/
import Derived.Test.YtpbgniffjlcbhaaDoorSc4
import Derived.ScopeJumps
import Derived.WalkMore
namespace Go.Proofs.YtpbgniffjlcbhaaDoor
open Go.RowKit
set_option linter.unusedVariables false
set_option linter.unusedSimpArgs false
set_option maxRecDepth 100000
/-- what holds where a goto leads to a label -/
def Sc.jumps (J : Nat → Act → World → Prop) (Q : Exit → Act → World → Prop) : Exit → Act → World → Prop
  | .goto l, a, w => J l a w
  | e, a, w => Q e a w
section
variable {P : Program} {a : Act} {w : World} {Q : Exit → Act → World → Prop}
theorem Sc.wp_scope_labels {c X X5 : Code} (J : Nat → Nat → Act → World → Prop) (h0 : findLabel c 0 = some (.seq .skip X)) (h5 : findLabel c 5 = some (.seq .skip X5))
    (hf : ∀ l m a w, J l m a w → ∃ r, findLabel c l = some r)
    (btw : ∀ m a w, J 0 m a w → X.wp P (Sc.jumps (fun l' a' w' => ∃ m', m' < m ∧ J l' m' a' w') Q) a w)
    (tok : ∀ m a w, J 5 m a w → X5.wp P (Sc.jumps (fun l' a' w' => ∃ m', m' < m ∧ J l' m' a' w') Q) a w)
    (pass : (∀ n m a w, n < m → J 5 n a w → X5.wp P (Sc.jumps (fun l' a' w' => ∃ m', m' < m ∧ J l' m' a' w') Q) a w) → ∀ l m a w r, l ≠ 0 → l ≠ 5 → J l m a w → findLabel c l = some r → r.wp P (Sc.jumps (fun l' a' w' => ∃ m', m' < m ∧ J l' m' a' w') Q) a w)
    (first : (∀ m a w, J 0 m a w → X.wp P (Sc.jumps (fun l a w => ∃ m, J l m a w) Q) a w) → c.wp P (Sc.jumps (fun l a w => ∃ m, J l m a w) Q) a w) : (Code.scope c).wp P Q a w := by
  have go : ∀ l m a w r, J l m a w → findLabel c l = some r → r.wp P (Sc.jumps (fun l' a' w' => ∃ m', m' < m ∧ J l' m' a' w') Q) a w := fun l m a w r hJ hr => by
    by_cases hl : l = 0
    · subst hl
      obtain rfl := Option.some.inj (h0.symm.trans hr)
      exact wp_seq (wp_skip (btw m a w hJ))
    by_cases hl5 : l = 5
    · subst hl5
      obtain rfl := Option.some.inj (h5.symm.trans hr)
      exact wp_seq (wp_skip (tok m a w hJ))
    · refine pass (fun n m a w hlt hJ => wp_mono (tok n a w hJ) fun e a w hq => ?_) l m a w r hl hl5 hJ hr
      cases e with
      | goto l' =>
        obtain ⟨m', h1, h2⟩ := hq
        exact ⟨m', Nat.lt_trans h1 hlt, h2⟩
      | _ => exact hq
  have key : ∀ n l m a w b k cs r, m = n → J l m a w → findLabel c l = some r → ∃ e a' w', Q e a' w' ∧ Arrives P (lone (b.at a (.code r :: .inScope c :: k)) cs w) b k cs e a' w' := by
    intro n
    induction n using Nat.strongRecOn with
    | _ n ih =>
      intro l m a w b k cs r hn hJ hr
      obtain ⟨e, a₁, w₁, hq, harr⟩ := go l m a w r hJ hr b (.inScope c :: k) cs
      cases e with
      | normal => exact ⟨.normal, a₁, w₁, hq, Steps.trans harr (.one step_inScope)⟩
      | exit id => exact ⟨.exit id, a₁, w₁, hq, fun k' hk => harr k' (by simp [exitTo, hk])⟩
      | goto l' =>
        obtain ⟨m', hlt, hJ'⟩ := hq
        obtain ⟨r', hr'⟩ := hf _ _ _ _ hJ'
        have hg : gotoIn l' (.inScope c :: k) = some (.code r' :: .inScope c :: k) := by simp [gotoIn, hr']
        obtain ⟨e₂, a₂, w₂, hq₂, harr₂⟩ := ih m' (by omega) l' m' a₁ w₁ b k cs r' rfl hJ' hr'
        exact ⟨e₂, a₂, w₂, hq₂, .of_steps (harr _ hg) harr₂⟩
      | ret => exact ⟨_, a₁, w₁, hq, harr⟩
      | panic ch => exact ⟨_, a₁, w₁, hq, harr⟩
      | outgrown => exact ⟨_, a₁, w₁, hq, harr⟩
  intro b k cs
  have first' := first fun m a w hJ => wp_mono (btw m a w hJ) fun e a w hq => by
    cases e with
    | goto l' =>
      obtain ⟨m', _, hJ'⟩ := hq
      exact ⟨m', hJ'⟩
    | _ => exact hq
  obtain ⟨e, a₁, w₁, hq, harr⟩ := first' b (.inScope c :: k) cs
  cases e with
  | normal => exact ⟨.normal, a₁, w₁, hq, .head step_scope (Steps.trans harr (.one step_inScope))⟩
  | exit id => exact ⟨.exit id, a₁, w₁, hq, fun k' hk => .head step_scope (harr k' (by simp [exitTo, hk]))⟩
  | goto l' =>
    obtain ⟨m', hJ'⟩ := hq
    obtain ⟨r', hr'⟩ := hf _ _ _ _ hJ'
    have hg : gotoIn l' (.inScope c :: k) = some (.code r' :: .inScope c :: k) := by simp [gotoIn, hr']
    obtain ⟨e₂, a₂, w₂, hq₂, harr₂⟩ := key _ l' m' a₁ w₁ b k cs r' rfl hJ' hr'
    exact ⟨e₂, a₂, w₂, hq₂, .of_steps (.head step_scope (harr _ hg)) harr₂⟩
  | ret => exact ⟨_, a₁, w₁, hq, .of_steps (.one step_scope) harr⟩
  | panic ch => exact ⟨_, a₁, w₁, hq, .of_steps (.one step_scope) harr⟩
  | outgrown => exact ⟨_, a₁, w₁, hq, .of_steps (.one step_scope) harr⟩
end
/-- Line's frame at a label -/
def Sc.Fr (a : Act) (s : ByteArray) (l : Value) (T : Nat) (b : Value) (e : Int) (ok : Value) : Prop := ∃ u9 u10 u11 u12 u13 u14 u15 u16 u17 u18 u19 u20 u21 u22 u23 u24 u25 u26 u27 u28 u29 u30 u31 u32 u33 u34 u35 u36 u37 u38 u39 u40 u41 u42 u43 u44 u45 u46 u47 u48 u49 u50 u51 u52 u53 u54 u55 u56 u57 u58 u59 u60 u61 u62 u63 u64 u65 u66 u67 u68 u69 u70 u71 u72 u73 u74 u75 u76 u77 u78 u79 u80 u81 : Value, a = ⟨List.toArray (.string s :: undef :: .slice Option.none 0 0 :: .int .i64 0 :: l :: .pointer (some ⟨T, 0, Option.none⟩) :: b :: .int .i64 e :: ok :: u9 :: u10 :: u11 :: u12 :: u13 :: u14 :: u15 :: u16 :: u17 :: u18 :: u19 :: u20 :: u21 :: u22 :: u23 :: u24 :: u25 :: u26 :: u27 :: u28 :: u29 :: u30 :: u31 :: u32 :: u33 :: u34 :: u35 :: u36 :: u37 :: u38 :: u39 :: u40 :: u41 :: u42 :: u43 :: u44 :: u45 :: u46 :: u47 :: u48 :: u49 :: u50 :: u51 :: u52 :: u53 :: u54 :: u55 :: u56 :: u57 :: u58 :: u59 :: u60 :: u61 :: u62 :: u63 :: u64 :: u65 :: u66 :: u67 :: u68 :: u69 :: u70 :: u71 :: u72 :: u73 :: u74 :: u75 :: u76 :: u77 :: u78 :: u79 :: u80 :: u81 :: []), []⟩
theorem Sc.Fr.elim {a : Act} {s : ByteArray} {l : Value} {T : Nat} {b : Value} {e : Int} {ok : Value} {M : Act → Prop} (h : Sc.Fr a s l T b e ok) (H : ∀ u9 u10 u11 u12 u13 u14 u15 u16 u17 u18 u19 u20 u21 u22 u23 u24 u25 u26 u27 u28 u29 u30 u31 u32 u33 u34 u35 u36 u37 u38 u39 u40 u41 u42 u43 u44 u45 u46 u47 u48 u49 u50 u51 u52 u53 u54 u55 u56 u57 u58 u59 u60 u61 u62 u63 u64 u65 u66 u67 u68 u69 u70 u71 u72 u73 u74 u75 u76 u77 u78 u79 u80 u81 : Value, M ⟨List.toArray (.string s :: undef :: .slice Option.none 0 0 :: .int .i64 0 :: l :: .pointer (some ⟨T, 0, Option.none⟩) :: b :: .int .i64 e :: ok :: u9 :: u10 :: u11 :: u12 :: u13 :: u14 :: u15 :: u16 :: u17 :: u18 :: u19 :: u20 :: u21 :: u22 :: u23 :: u24 :: u25 :: u26 :: u27 :: u28 :: u29 :: u30 :: u31 :: u32 :: u33 :: u34 :: u35 :: u36 :: u37 :: u38 :: u39 :: u40 :: u41 :: u42 :: u43 :: u44 :: u45 :: u46 :: u47 :: u48 :: u49 :: u50 :: u51 :: u52 :: u53 :: u54 :: u55 :: u56 :: u57 :: u58 :: u59 :: u60 :: u61 :: u62 :: u63 :: u64 :: u65 :: u66 :: u67 :: u68 :: u69 :: u70 :: u71 :: u72 :: u73 :: u74 :: u75 :: u76 :: u77 :: u78 :: u79 :: u80 :: u81 :: []), []⟩) : M a := by
  obtain ⟨u9, u10, u11, u12, u13, u14, u15, u16, u17, u18, u19, u20, u21, u22, u23, u24, u25, u26, u27, u28, u29, u30, u31, u32, u33, u34, u35, u36, u37, u38, u39, u40, u41, u42, u43, u44, u45, u46, u47, u48, u49, u50, u51, u52, u53, u54, u55, u56, u57, u58, u59, u60, u61, u62, u63, u64, u65, u66, u67, u68, u69, u70, u71, u72, u73, u74, u75, u76, u77, u78, u79, u80, u81, rfl⟩ := h
  exact H u9 u10 u11 u12 u13 u14 u15 u16 u17 u18 u19 u20 u21 u22 u23 u24 u25 u26 u27 u28 u29 u30 u31 u32 u33 u34 u35 u36 u37 u38 u39 u40 u41 u42 u43 u44 u45 u46 u47 u48 u49 u50 u51 u52 u53 u54 u55 u56 u57 u58 u59 u60 u61 u62 u63 u64 u65 u66 u67 u68 u69 u70 u71 u72 u73 u74 u75 u76 u77 u78 u79 u80 u81
theorem Sc.Fr.mk {s : ByteArray} {l : Value} {T : Nat} {b : Value} {e : Int} {ok : Value} (u9 u10 u11 u12 u13 u14 u15 u16 u17 u18 u19 u20 u21 u22 u23 u24 u25 u26 u27 u28 u29 u30 u31 u32 u33 u34 u35 u36 u37 u38 u39 u40 u41 u42 u43 u44 u45 u46 u47 u48 u49 u50 u51 u52 u53 u54 u55 u56 u57 u58 u59 u60 u61 u62 u63 u64 u65 u66 u67 u68 u69 u70 u71 u72 u73 u74 u75 u76 u77 u78 u79 u80 u81 : Value) : Sc.Fr ⟨List.toArray (.string s :: undef :: .slice Option.none 0 0 :: .int .i64 0 :: l :: .pointer (some ⟨T, 0, Option.none⟩) :: b :: .int .i64 e :: ok :: u9 :: u10 :: u11 :: u12 :: u13 :: u14 :: u15 :: u16 :: u17 :: u18 :: u19 :: u20 :: u21 :: u22 :: u23 :: u24 :: u25 :: u26 :: u27 :: u28 :: u29 :: u30 :: u31 :: u32 :: u33 :: u34 :: u35 :: u36 :: u37 :: u38 :: u39 :: u40 :: u41 :: u42 :: u43 :: u44 :: u45 :: u46 :: u47 :: u48 :: u49 :: u50 :: u51 :: u52 :: u53 :: u54 :: u55 :: u56 :: u57 :: u58 :: u59 :: u60 :: u61 :: u62 :: u63 :: u64 :: u65 :: u66 :: u67 :: u68 :: u69 :: u70 :: u71 :: u72 :: u73 :: u74 :: u75 :: u76 :: u77 :: u78 :: u79 :: u80 :: u81 :: []), []⟩ s l T b e ok := ⟨u9, u10, u11, u12, u13, u14, u15, u16, u17, u18, u19, u20, u21, u22, u23, u24, u25, u26, u27, u28, u29, u30, u31, u32, u33, u34, u35, u36, u37, u38, u39, u40, u41, u42, u43, u44, u45, u46, u47, u48, u49, u50, u51, u52, u53, u54, u55, u56, u57, u58, u59, u60, u61, u62, u63, u64, u65, u66, u67, u68, u69, u70, u71, u72, u73, u74, u75, u76, u77, u78, u79, u80, u81, rfl⟩
/-- what is the call's own: the token that is being made, the row -/
structure Sc.At (w0 : World) (l : List Sc.Tk) (y : Sc.Tk) (A : Option Addr) (n c : Nat) (w : World) : Prop where
  below : Below w0.heap.size w0 w
  tok : Has w0.heap.size (Sc.cs y).toArray 34 w
  row : Oz 34 (w0.heap.size + 1) A n c l w
/-- what Line tells -/
def Sc.LineR (w0 : World) (R : Except Int (List Sc.Tk)) (v : Value) (w' : World) : Prop := match R with
  | .ok l => ∃ A n c, v = .tuple #[.slice A n c, .int .i64 0] ∧ Oz 34 w0.heap.size A n c l w'
  | .error x => v = .tuple #[.slice Option.none 0 0, .int .i64 x]
def Sc.J (w0 : World) (s : ByteArray) : Nat → Nat → Act → World → Prop
  | 0, m, a, w => ∃ (k : Nat) (A : Option Addr) (n c : Nat) (l : List Sc.Tk) (y : Sc.Tk) (b ok : Value), Sc.Fr a s (.slice A n c) w0.heap.size b k ok ∧ m = 4 * (s.size - k) + 3 ∧ k ≤ s.size ∧ n ≤ k ∧ Sc.At w0 l y A n c w ∧ Hid (Sc.line (L.bs s) = Sc.pre l (Sc.run ((L.bs s).drop k) k))
  | 5, m, a, w => ∃ (e b : Nat) (A : Option Addr) (n c : Nat) (l : List Sc.Tk) (y : Sc.Tk) (ok : Value), Sc.Fr a s (.slice A n c) w0.heap.size (.int .i64 b) e ok ∧ m = 4 * (s.size - e) + 4 ∧ e ≤ s.size ∧ b ≤ e ∧ n < e ∧ Sc.At w0 l y A n c w ∧ Hid (Sc.line (L.bs s) = Sc.pre (l ++ [{ y with t := ((L.bs s).drop b).take (e - b) }]) (Sc.run ((L.bs s).drop e) e))
  | q, m, a, w => q < 5 ∧ ∃ (k : Nat) (A : Option Addr) (n c : Nat) (l : List Sc.Tk) (ch : Int) (ok : Value), Sc.Fr a s (.slice A n c) w0.heap.size (.int .i64 k) k ok ∧ m = 4 * (s.size - k) + 2 ∧ k < s.size ∧ n ≤ k ∧ Sc.At w0 l ⟨0, k, [], 0⟩ A n c w ∧ Hid (Sc.line (L.bs s) = Sc.pre l (Sc.run ((L.bs s).drop k) k)) ∧ Hid ((L.bs s)[k]? = some ch ∧ ch ≠ 59 ∧ Sc.blank ch = false ∧
      ((q = 1 ∧ Sc.letter ch = true) ∨ (q = 2 ∧ Sc.letter ch = false ∧ L.digit ch = true) ∨ (q = 3 ∧ Sc.letter ch = false ∧ L.digit ch = false ∧ ch = 46 ∧ Sc.letter ((L.bs s).getD (k + 1) 59) = true) ∨ (q = 4 ∧ Sc.letter ch = false ∧ L.digit ch = false ∧ ¬ (ch = 46 ∧ Sc.letter ((L.bs s).getD (k + 1) 59) = true) ∧ Sc.sign ch = true)))
theorem Sc.info34 : (Tryd.prog.info? 34).map (·.size) = some 4 := by kernel_rfl
theorem Sc.info34b : (Tryd.prog.info? 34).map (fun i => (i.zero, i.size, i.bytes)) = some (some (.agg #[.int .i64 0, .int .i64 0, .string ⟨#[]⟩, .int .u32 0]), 4, 40) := by kernel_rfl
theorem Sc.drop_at {xs : List Int} {k : Nat} {ch : Int} (h : xs[k]? = some ch) : xs.drop k = ch :: xs.drop (k + 1) := by
  have hk : k < xs.length := by
    rcases Nat.lt_or_ge k xs.length with h1 | h1
    · exact h1
    · rw [List.getElem?_eq_none h1] at h; cases h
  rw [List.drop_eq_getElem_cons hk]
  congr 1
  rw [List.getElem?_eq_getElem hk] at h
  exact Option.some.inj h
theorem Sc.line_tok {xs : List Int} {l : List Sc.Tk} {k : Nat} {ch : Int} {x : Sc.Tk × Nat} (hL : Sc.line xs = Sc.pre l (Sc.run (xs.drop k) k)) (hch : xs[k]? = some ch) (h59 : ch ≠ 59) (hb : Sc.blank ch = false) (ho : Sc.one (xs.drop k) k = .ok x) :
    Sc.line xs = Sc.pre (l ++ [x.1]) (Sc.run (xs.drop (k + x.2)) ((k + x.2 : Nat) : Int)) ∧ 1 ≤ x.2 ∧ k + x.2 ≤ xs.length := by
  have hk : k < xs.length := by
    rcases Nat.lt_or_ge k xs.length with h1 | h1
    · exact h1
    · rw [List.getElem?_eq_none h1] at hch; cases hch
  have hd := Sc.drop_at hch
  rw [hd] at hL ho
  obtain ⟨g1, g2⟩ := Sc.one_size ho
  rw [Sc.run_tok h59 hb ho, Sc.pre_pre, ← hd, List.drop_drop] at hL
  rw [← hd, List.length_drop] at g2
  refine ⟨?_, g1, by omega⟩
  rw [hL]
  congr 2
theorem Sc.line_err {xs : List Int} {l : List Sc.Tk} {k : Nat} {ch e : Int} (hL : Sc.line xs = Sc.pre l (Sc.run (xs.drop k) k)) (hch : xs[k]? = some ch) (h59 : ch ≠ 59) (hb : Sc.blank ch = false) (ho : Sc.one (xs.drop k) k = .error e) : Sc.line xs = .error e := by
  have hd := Sc.drop_at hch
  rw [hd] at hL ho
  rw [hL, Sc.run_err h59 hb ho]; rfl
theorem Sc.word_take (xs : List Int) : xs.take (Sc.word xs).length = Sc.word xs := by
  obtain ⟨t, ht⟩ := List.takeWhile_prefix (l := xs) L.part
  unfold Sc.word
  generalize List.takeWhile L.part xs = y at *
  rw [← ht]
  exact List.take_left' rfl
theorem Sc.letter_next (xs : List Int) (k : Nat) : Sc.letter ((xs.drop k).getD 0 0) = Sc.letter (xs.getD k 59) := by
  rw [List.getD_eq_getElem?_getD, List.getD_eq_getElem?_getD, List.getElem?_drop, Nat.add_zero]
  cases xs[k]? <;> rfl
theorem Sc.one_name {xs : List Int} {k : Nat} {ch : Int} (hch : xs[k]? = some ch) (h : Sc.letter ch = true) : Sc.one (xs.drop k) k = .ok (⟨1, k, Sc.word (xs.drop k), 0⟩, (Sc.word (xs.drop k)).length) := by
  rw [Sc.drop_at hch, Sc.one_cons, if_pos h]
theorem Sc.one_num {xs : List Int} {k : Nat} {ch n : Int} (hch : xs[k]? = some ch) (h : Sc.letter ch = false) (hd : L.digit ch = true) (hn : Sc.number (Sc.word (xs.drop k)) = some n) : Sc.one (xs.drop k) k = .ok (⟨2, k, Sc.word (xs.drop k), n⟩, (Sc.word (xs.drop k)).length) := by
  rw [Sc.drop_at hch] at hn ⊢
  rw [Sc.one_cons, if_neg (by rw [h]; decide), if_pos hd, hn]
theorem Sc.one_numE {xs : List Int} {k : Nat} {ch : Int} (hch : xs[k]? = some ch) (h : Sc.letter ch = false) (hd : L.digit ch = true) (hn : Sc.number (Sc.word (xs.drop k)) = Option.none) : Sc.one (xs.drop k) k = .error 21 := by
  rw [Sc.drop_at hch] at hn ⊢
  rw [Sc.one_cons, if_neg (by rw [h]; decide), if_pos hd, hn]
theorem Sc.one_dot {xs : List Int} {k : Nat} {ch : Int} (hch : xs[k]? = some ch) (h : Sc.letter ch = false) (hd : L.digit ch = false) (h46 : ch = 46) (hl : Sc.letter (xs.getD (k + 1) 59) = true) : Sc.one (xs.drop k) k = .ok (⟨4, k, Sc.word (xs.drop (k + 1)), 0⟩, 1 + (Sc.word (xs.drop (k + 1))).length) := by
  rw [Sc.drop_at hch, Sc.one_cons, if_neg (by rw [h]; decide), if_neg (by rw [hd]; decide), if_pos ⟨h46, by rw [Sc.letter_next]; exact hl⟩]
theorem Sc.one_sign {xs : List Int} {k : Nat} {ch : Int} (hch : xs[k]? = some ch) (h : Sc.letter ch = false) (hd : L.digit ch = false) (h46 : ¬ (ch = 46 ∧ Sc.letter (xs.getD (k + 1) 59) = true)) (hs : Sc.sign ch = true) : Sc.one (xs.drop k) k = .ok (⟨3, k, [ch], 0⟩, 1) := by
  rw [Sc.drop_at hch, Sc.one_cons, if_neg (by rw [h]; decide), if_neg (by rw [hd]; decide), if_neg (by rw [Sc.letter_next]; exact h46), if_pos hs]
theorem Sc.one_noneE {xs : List Int} {k : Nat} {ch : Int} (hch : xs[k]? = some ch) (h : Sc.letter ch = false) (hd : L.digit ch = false) (h46 : ¬ (ch = 46 ∧ Sc.letter (xs.getD (k + 1) 59) = true)) (hs : Sc.sign ch = false) : Sc.one (xs.drop k) k = .error 20 := by
  rw [Sc.drop_at hch, Sc.one_cons, if_neg (by rw [h]; decide), if_neg (by rw [hd]; decide), if_neg (by rw [Sc.letter_next]; exact h46), if_neg (by rw [hs]; decide)]
theorem Sc.line_stop {xs : List Int} {l : List Sc.Tk} {k : Nat} (hL : Sc.line xs = Sc.pre l (Sc.run (xs.drop k) k)) (h : xs.getD k 59 = 59) : Sc.line xs = .ok l := by
  rw [hL]
  cases hx : xs[k]? with
  | none =>
    have : xs.drop k = [] := List.drop_eq_nil_of_le (by
      rcases Nat.lt_or_ge k xs.length with h1 | h1
      · rw [List.getElem?_eq_getElem h1] at hx; cases hx
      · exact h1)
    rw [this, Sc.run_nil]
    simp [Sc.pre]
  | some ch =>
    rw [List.getD_eq_getElem?_getD, hx] at h
    have : ch = 59 := h
    subst this
    rw [Sc.drop_at hx, Sc.run_semi]
    simp [Sc.pre]
theorem Sc.line_blank {xs : List Int} {l : List Sc.Tk} {k : Nat} {ch : Int} (hL : Sc.line xs = Sc.pre l (Sc.run (xs.drop k) k)) (hch : xs[k]? = some ch) (hb : Sc.blank ch = true) : Sc.line xs = Sc.pre l (Sc.run (xs.drop (k + 1)) ((k + 1 : Nat) : Int)) := by
  rw [hL, Sc.drop_at hch, Sc.run_blank _ _ hb]
  congr 2
section
variable {w0 w w' : World} {l : List Sc.Tk} {y : Sc.Tk} {A : Option Addr} {n c : Nat}
theorem Sc.At.free (h : Sc.At w0 l y A n c w) (j : Nat) : w.frozen? ⟨w0.heap.size, j, Option.none⟩ = false := h.tok.free j
theorem Sc.At.step (h : Sc.At w0 l y A n c w) (hb : Below w.heap.size w w') : Sc.At w0 l y A n c w' :=
  ⟨h.below.trans (hb.mono h.below.size), h.tok.below hb, h.row.below hb⟩
theorem Sc.At.rowOther {g : Nat} {cs : Array Value} (h : Oz 34 (w0.heap.size + 1) A n c l w) (hw : ∀ g, w0.heap.size + 1 ≤ g → ∀ cs, Has g cs 34 w → Has g cs 34 w') : Oz 34 (w0.heap.size + 1) A n c l w' := by
  rcases h.cases with ⟨rfl, rfl, rfl, rfl⟩ | ⟨g, rfl, h⟩
  · exact Oz.none _ _ _
  · obtain ⟨h1, h2, h3, h4, cur, h5, h6, h7⟩ := h.has
    exact Oz.mk' h1 h2 h3 h4 cur (hw g h1 cur h5) h6 h7
theorem Sc.At.put (h : Sc.At w0 l y A n c w) (j : Nat) (v : Value) (y' : Sc.Tk) (hy : (Sc.cs y).toArray.setIfInBounds j v = (Sc.cs y').toArray) : Sc.At w0 l y' A n c (w.setCell ⟨w0.heap.size, j, Option.none⟩ v) :=
  ⟨h.below.setCell (Nat.le_refl _) v, by rw [← hy]; exact h.tok.set j v, Sc.At.rowOther (g := 0) (cs := #[]) h.row fun g hg cs hh => hh.other (by show g ≠ w0.heap.size; omega) v⟩
theorem Sc.At.grown {n' c' : Nat} {A' : Option Addr} {l' : List Sc.Tk} (h : Sc.At w0 l y A n c w) (hg : w.grownBy w' (Value.slice A n c).ownBlock) (hO : Oz 34 (w0.heap.size + 1) A' n' c' l' w') : Sc.At w0 l' y A' n' c' w' :=
  ⟨h.below.grown hg (Nat.le_of_lt h.tok.lt) (fun q hq => Nat.le_of_succ_le (h.row.from q hq)), (hg.block _ h.tok.lt (fun e => by
    have := h.row.from _ e.symm
    omega)).trans h.tok, hO⟩
theorem Sc.At.new (h : Sc.At w0 l y A n c w) (y' : Sc.Tk) : Sc.At w0 l y' A n c (w.setRow w0.heap.size (Sc.cs y').toArray) :=
  ⟨⟨h.below.os, h.below.tape, h.below.output, by have := h.below.size; simpa [World.setRow] using this, fun k hk => (setRow_other _ _ _ _ (by omega)).trans (h.below.block k hk)⟩, h.tok.row _, Sc.At.rowOther (g := 0) (cs := #[]) h.row fun g hg cs hh => hh.rowOther (by omega) _⟩
end
end Go.Proofs.YtpbgniffjlcbhaaDoor
