/-
  What follows, plainly, of package dump: what was put is taken; what is taken was put; lines in another order, or cut, are none.
-/
import Derived.Test.YtpfejjkoemnmiaaM04
import Derived.Test.YtpfejjkoemnmiaaFiQ
namespace Go.Proofs.Ytpfejjkoemnmiaa
open Go.RowKit
set_option linter.unusedVariables false
set_option linter.unusedSimpArgs false
set_option maxRecDepth 100000
theorem Du.text_append (a b : List (List Int)) : Du.text (a ++ b) = Du.text a ++ Du.text b := List.flatMap_append
theorem Du.text_cons (l : List Int) (ls : List (List Int)) : Du.text (l :: ls) = l ++ 10 :: Du.text ls := by
  show (l ++ [10]) ++ Du.text ls = _
  rw [List.append_assoc]; rfl
theorem Du.wl_len (b : Bool) (x : Int) : (Du.wl b x).length = 13 := by cases b <;> rfl
theorem Du.wl_ten (b : Bool) (x : Int) : ∀ c ∈ Du.wl b x, c ≠ 10 := by
  intro c hc
  rcases List.mem_append.1 hc with h | h
  · cases b
    · simp [Du.wordH] at h; omega
    · simp [Du.addrH] at h; omega
  · have := Du.hex_rng x c h; omega
theorem Du.name_ten {s : ByteArray} (h : Ob.Good s) : ∀ c ∈ L.bs s, c ≠ 10 := by
  intro c hc e
  subst e
  unfold Ob.Good L.name at h
  simp only [Bool.and_eq_true] at h
  have h2 := List.all_eq_true.1 h.2 10 hc
  revert h2
  decide
theorem Du.nl_ten {y : Ob.Y} (h : Ob.Good y.1) : ∀ c ∈ Du.nl y, c ≠ 10 := by
  intro c hc
  unfold Du.nl at hc
  rcases List.mem_append.1 hc with hc | hc
  · rcases List.mem_append.1 hc with hc | hc
    · rcases List.mem_append.1 hc with hc | hc
      · simp [Du.nameH] at hc; omega
      · exact Du.name_ten h c hc
    · simp at hc; omega
  · have := Du.hex_rng y.2 c hc; omega
theorem Du.nl_len (y : Ob.Y) : (Du.nl y).length = 14 + (L.bs y.1).length := by
  unfold Du.nl
  simp only [List.length_append, Du.hex_len, List.length_cons, List.length_nil, Du.nameH]
  omega
theorem Du.one_eq {o : Du.St} {l : List Int} {n : Int} (h : 13 ≤ l.length) (hn : Du.num (l.drop (l.length - 8)) = some n) :
    Du.one o l = if l.take 5 = Du.nameH ∧ 15 ≤ l.length then
      (if L.name ((l.take (l.length - 9)).drop 5) = true ∧ l.getD (l.length - 9) 0 = 32 then some (o.1, o.2.1, o.2.2 ++ [(strOfNums ((l.take (l.length - 9)).drop 5), n)]) else none)
      else if l.length = 13 ∧ o.2.2 = [] ∧ (l.take 5 = Du.wordH ∨ l.take 5 = Du.addrH) then some (o.1 ++ [n], (if l.take 5 = Du.addrH then o.2.1 ++ [(o.1.length : Int)] else o.2.1), []) else none := by
  conv => lhs; unfold Du.one
  rw [if_neg (by omega), hn]
theorem Du.wl_num (b : Bool) {x : Int} (h0 : 0 ≤ x) (h1 : x < 4294967296) : Du.num ((Du.wl b x).drop ((Du.wl b x).length - 8)) = some x := by
  have hd : (Du.wl b x).drop ((Du.wl b x).length - 8) = Du.hex x := by cases b <;> rfl
  rw [hd, Du.num_hex h0 h1]
theorem Du.wl_head (b : Bool) (x : Int) : (Du.wl b x).take 5 = if b = true then Du.addrH else Du.wordH := by cases b <;> rfl
theorem Du.one_word {W S : List Int} (b : Bool) {x : Int} (h0 : 0 ≤ x) (h1 : x < 4294967296) : Du.one (W, S, []) (Du.wl b x) = some (W ++ [x], (if b = true then S ++ [(W.length : Int)] else S), []) := by
  have hl := Du.wl_len b x
  rw [Du.one_eq (by omega) (Du.wl_num b h0 h1), if_neg (fun q => by have := q.2; omega), Du.wl_head, if_pos ⟨hl, rfl, by cases b; exact Or.inl rfl; exact Or.inr rfl⟩]
  have e : ((if b = true then Du.addrH else Du.wordH) = Du.addrH) ↔ b = true := by cases b <;> decide
  simp only [e]
theorem Du.one_late {W S : List Int} {Y : List Ob.Y} (hY : Y ≠ []) (b : Bool) {x : Int} (h0 : 0 ≤ x) (h1 : x < 4294967296) : Du.one (W, S, Y) (Du.wl b x) = none := by
  have hl := Du.wl_len b x
  rw [Du.one_eq (by omega) (Du.wl_num b h0 h1), if_neg (fun q => by have := q.2; omega), if_neg (fun q => hY q.2.1)]
theorem Du.one_name {o : Du.St} {y : Ob.Y} (h : Fi.OkY y) : Du.one o (Du.nl y) = some (o.1, o.2.1, o.2.2 ++ [y]) := by
  have hl := Du.nl_len y
  have hs := (L.name_len h.1).1
  have e1 : (Du.nl y).drop ((Du.nl y).length - 8) = Du.hex y.2 := by
    unfold Du.nl
    exact List.drop_left' (by simp only [List.length_append, Du.hex_len]; omega)
  have e2 : (Du.nl y).take ((Du.nl y).length - 9) = Du.nameH ++ L.bs y.1 := by
    unfold Du.nl
    rw [List.append_assoc]
    exact List.take_left' (by simp only [List.length_append, Du.hex_len, List.length_cons, List.length_nil]; omega)
  have e3 : (Du.nl y).getD ((Du.nl y).length - 9) 0 = 32 := by
    have : (Du.nl y)[(Du.nl y).length - 9]? = some 32 := by
      have hk : (Du.nl y).length - 9 = (Du.nameH ++ L.bs y.1).length + 0 := by rw [hl, List.length_append]; simp [Du.nameH]; omega
      rw [hk]
      unfold Du.nl
      rw [List.append_assoc (Du.nameH ++ L.bs y.1), List.getElem?_append_right (by omega)]
      simp
    rw [List.getD_eq_getElem?_getD, this]; rfl
  rw [Du.one_eq (n := y.2) (by omega) (by rw [e1, Du.num_hex h.2.1 h.2.2]), if_pos ⟨by unfold Du.nl; rfl, by omega⟩, e2, e3]
  rw [if_pos ⟨h.1, rfl⟩]
  show some (o.1, o.2.1, o.2.2 ++ [(strOfNums (L.bs y.1), y.2)]) = _
  rw [L.str_bs]
/-- the sites among words from the one of a number on -/
def Du.si (S : List Int) : Nat → List Int → List Int
  | _, [] => []
  | i, x :: ws => (if ((i : Int) ∈ S) then [(i : Int)] else []) ++ Du.si S (i + 1) ws
theorem Du.go_words : ∀ (ws : List Int) (W S0 S : List Int) (r : List Int), (∀ x ∈ ws, 0 ≤ x ∧ x < 4294967296) → Du.go (W, S0, []) [] (Du.text (Du.wls S W.length ws) ++ r) = Du.go (W ++ ws, S0 ++ Du.si S W.length ws, []) [] r
  | [], W, S0, S, r, _ => by simp [Du.wls, Du.text, Du.si]
  | x :: ws, W, S0, S, r, h => by
    have hx := h x List.mem_cons_self
    show Du.go _ _ (Du.text (Du.wl (decide ((W.length : Int) ∈ S)) x :: Du.wls S (W.length + 1) ws) ++ r) = _
    rw [Du.text_cons, List.append_assoc, List.cons_append, Du.go_line _ _ _ _ (Du.wl_ten _ _), List.nil_append, Du.one_word _ hx.1 hx.2]
    simp only []
    have hl : W.length + 1 = (W ++ [x]).length := by simp
    rw [hl, Du.go_words ws (W ++ [x]) _ S r (fun z hz => h z (List.mem_cons_of_mem _ hz)), List.append_assoc]
    congr 1
    show (_, _, _) = (_, _, _)
    congr 1
    congr 1
    show _ = S0 ++ ((if ((W.length : Int) ∈ S) then [(W.length : Int)] else []) ++ Du.si S (W.length + 1) ws)
    rw [← List.append_assoc, hl]
    by_cases c : (W.length : Int) ∈ S
    · simp [c]
    · simp [c]
theorem Du.go_names : ∀ (ys : List Ob.Y) (o : Du.St) (r : List Int), (∀ y ∈ ys, Fi.OkY y) → Du.go o [] (Du.text (ys.map Du.nl) ++ r) = Du.go (o.1, o.2.1, o.2.2 ++ ys) [] r
  | [], o, r, _ => by simp [Du.text]
  | y :: ys, o, r, h => by
    have hy := h y List.mem_cons_self
    rw [List.map_cons, Du.text_cons, List.append_assoc, List.cons_append, Du.go_line _ _ _ _ (Du.nl_ten hy.1), List.nil_append, Du.one_name hy]
    simp only []
    rw [Du.go_names ys _ r (fun z hz => h z (List.mem_cons_of_mem _ hz))]
    simp
theorem Du.si_congr {S T : List Int} : ∀ (ws : List Int) (i : Nat), (∀ j : Nat, i ≤ j → ((j : Int) ∈ S ↔ (j : Int) ∈ T)) → Du.si S i ws = Du.si T i ws
  | [], _, _ => rfl
  | x :: ws, i, h => by
    show (if ((i : Int) ∈ S) then [(i : Int)] else []) ++ _ = (if ((i : Int) ∈ T) then [(i : Int)] else []) ++ _
    rw [Du.si_congr ws (i + 1) (fun j hj => h j (by omega))]
    by_cases c : (i : Int) ∈ S
    · rw [if_pos c, if_pos ((h i (Nat.le_refl _)).1 c)]
    · rw [if_neg c, if_neg (fun q => c ((h i (Nat.le_refl _)).2 q))]
theorem Du.si_all : ∀ (ws : List Int) (i : Nat) (S : List Int), S.Pairwise (· < ·) → (∀ s ∈ S, (i : Int) ≤ s ∧ s < (i : Int) + ws.length) → Du.si S i ws = S
  | [], i, S, _, h => by
    cases S with
    | nil => rfl
    | cons s S => have := h s List.mem_cons_self; simp at this; omega
  | x :: ws, i, S, hp, h => by
    show (if ((i : Int) ∈ S) then [(i : Int)] else []) ++ Du.si S (i + 1) ws = S
    by_cases c : (i : Int) ∈ S
    · rw [if_pos c]
      cases S with
      | nil => simp at c
      | cons s S =>
        have hs := List.pairwise_cons.1 hp
        have h0 := h s List.mem_cons_self
        have e : s = (i : Int) := by
          rcases List.mem_cons.1 c with q | q
          · exact q.symm
          · have := hs.1 _ q; omega
        subst e
        have e2 : Du.si ((i : Int) :: S) (i + 1) ws = Du.si S (i + 1) ws := Du.si_congr ws (i + 1) fun j hj => by
          simp only [List.mem_cons]
          constructor
          · rintro (q | q)
            · omega
            · exact q
          · exact Or.inr
        rw [e2, Du.si_all ws (i + 1) S hs.2 fun t ht => by
          have h1 := hs.1 t ht
          have h2 := h t (List.mem_cons_of_mem _ ht)
          simp only [List.length_cons] at h2
          omega]
        rfl
    · rw [if_neg c, List.nil_append]
      refine Du.si_all ws (i + 1) S hp fun t ht => ?_
      have h2 := h t ht
      simp only [List.length_cons] at h2
      have h3 : t ≠ (i : Int) := fun q => c (q ▸ ht)
      omega
section
variable {W S : List Int} {Y : List Ob.Y}
theorem Du.go_put (h : Fi.Ok W S Y) : Du.go ([], [], []) [] (Du.put W S Y) = some (W, S, Y) := by
  have hR := (Ob.rises_iff _ _).1 h.hR
  unfold Du.put Du.lines
  rw [Du.text_append]
  have h1 := Du.go_words W [] [] S (Du.text (Y.map Du.nl)) h.hr
  rw [show ([] : List Int).length = 0 from rfl] at h1
  rw [h1, List.nil_append, List.nil_append, Du.si_all W 0 S hR.2 (fun s hs => by have := hR.1 s hs; omega)]
  have h2 := Du.go_names Y (W, S, []) [] h.hN
  rw [List.append_nil] at h2
  rw [h2]
  rfl
theorem Du.take_put (h : Fi.Ok W S Y) (hm : Ob.may W S Y = 0) : Du.take (Du.put W S Y) = .ok (W, S, Y) := by
  unfold Du.take
  rw [Du.go_put h]
  simp only []
  rw [if_pos hm]
end
/-! what is taken -/
theorem Du.wls_append (S : List Int) : ∀ (a : List Int) (i : Nat) (b : List Int), Du.wls S i (a ++ b) = Du.wls S i a ++ Du.wls S (i + a.length) b
  | [], i, b => rfl
  | x :: a, i, b => by
    show Du.wl _ x :: Du.wls S (i + 1) (a ++ b) = Du.wl _ x :: (Du.wls S (i + 1) a ++ _)
    rw [Du.wls_append S a (i + 1) b, show i + 1 + a.length = i + (x :: a).length by simp; omega]
theorem Du.wls_congr {S T : List Int} : ∀ (ws : List Int) (i : Nat), (∀ j : Nat, j < i + ws.length → ((j : Int) ∈ S ↔ (j : Int) ∈ T)) → Du.wls S i ws = Du.wls T i ws
  | [], _, _ => rfl
  | x :: ws, i, h => by
    show Du.wl (decide ((i : Int) ∈ S)) x :: _ = Du.wl (decide ((i : Int) ∈ T)) x :: _
    rw [Du.wls_congr ws (i + 1) (fun j hj => h j (by simp; omega)), decide_eq_decide.2 (h i (by simp))]
theorem Du.put_word {W S : List Int} (hS : ∀ s ∈ S, s < (W.length : Int)) (b : Bool) (n : Int) : Du.put (W ++ [n]) (if b = true then S ++ [(W.length : Int)] else S) [] = Du.put W S [] ++ Du.wl b n ++ [10] := by
  unfold Du.put Du.lines
  simp only [List.map_nil, List.append_nil]
  rw [Du.wls_append, Du.text_append, Nat.zero_add]
  have h1 : Du.wls (if b = true then S ++ [(W.length : Int)] else S) 0 W = Du.wls S 0 W := Du.wls_congr W 0 fun j hj => by
    cases b
    · exact Iff.rfl
    · simp only [if_true, List.mem_append, List.mem_cons, List.not_mem_nil, or_false]
      constructor
      · rintro (q | q)
        · exact q
        · omega
      · exact Or.inl
  have h2 : decide ((W.length : Int) ∈ (if b = true then S ++ [(W.length : Int)] else S)) = b := by
    cases b
    · exact decide_eq_false fun q => by have := hS _ q; omega
    · exact decide_eq_true (by simp)
  rw [h1]
  show _ ++ Du.text [Du.wl (decide ((W.length : Int) ∈ (if b = true then S ++ [(W.length : Int)] else S))) n] = _
  rw [h2, List.append_assoc]
  simp [Du.text]
theorem Du.put_name (W S : List Int) (Y : List Ob.Y) (y : Ob.Y) : Du.put W S (Y ++ [y]) = Du.put W S Y ++ Du.nl y ++ [10] := by
  unfold Du.put Du.lines
  rw [List.map_append, ← List.append_assoc, Du.text_append, List.append_assoc]
  simp [Du.text]
/-- what holds of an object that is being taken -/
structure Du.Inv (o : Du.St) : Prop where
  hS : ∀ s ∈ o.2.1, 0 ≤ s ∧ s < (o.1.length : Int)
  hW : ∀ x ∈ o.1, 0 ≤ x ∧ x < 4294967296
  hY : ∀ y ∈ o.2.2, Fi.OkY y ∧ y.1.size ≤ 12
theorem Du.one_some {o o' : Du.St} {l : List Int} (hb : L.Byt l) (hI : Du.Inv o) (h : Du.one o l = some o') : Du.put o'.1 o'.2.1 o'.2.2 = Du.put o.1 o.2.1 o.2.2 ++ l ++ [10] ∧ Du.Inv o' ∧ 13 ≤ l.length := by
  unfold Du.one at h
  split at h
  · cases h
  rename_i hl
  split at h
  · cases h
  rename_i n hn
  obtain ⟨hx, n0, n1⟩ := Du.hex_num hn
  split at h
  · rename_i c1
    split at h
    · rename_i c2
      cases h
      have hxb : L.Byt ((l.take (l.length - 9)).drop 5) := fun x hx => hb x (List.mem_of_mem_take (List.mem_of_mem_drop hx))
      have hbs := L.bs_str _ hxb
      have hg : l[l.length - 9]? = some 32 := by
        have h1 := c2.2
        rw [List.getD_eq_getElem?_getD, List.getElem?_eq_getElem (by omega)] at h1
        rw [List.getElem?_eq_getElem (by omega)]
        simpa using h1
      have e1 : Du.nl (strOfNums ((l.take (l.length - 9)).drop 5), n) = l := by
        unfold Du.nl
        simp only []
        rw [hbs, hx, ← c1.1]
        have h2 : l.take 5 ++ (l.take (l.length - 9)).drop 5 = l.take (l.length - 9) := by
          have := List.take_append_drop 5 (l.take (l.length - 9))
          rwa [List.take_take, Nat.min_eq_left (by omega)] at this
        rw [h2]
        have h3 : l.take (l.length - 9) ++ [32] = l.take (l.length - 8) := by
          rw [show l.length - 8 = (l.length - 9) + 1 by omega, List.take_add_one, hg]; rfl
        rw [h3]
        exact List.take_append_drop _ _
      refine ⟨?_, ⟨hI.hS, hI.hW, fun y hy => ?_⟩, by omega⟩
      · show Du.put o.1 o.2.1 (o.2.2 ++ [_]) = _
        rw [Du.put_name, e1]
      · rcases List.mem_append.1 hy with q | q
        · exact hI.hY y q
        · simp only [List.mem_cons, List.not_mem_nil, or_false] at q
          subst q
          refine ⟨⟨?_, n0, n1⟩, ?_⟩
          · show L.name (L.bs _) = true
            rw [hbs]; exact c2.1
          · show (strOfNums _).size ≤ 12
            rw [strOfNums_size]
            exact (L.name_len c2.1).2
    · cases h
  · split at h
    · rename_i c1
      cases h
      obtain ⟨W, S, Y⟩ := o
      obtain ⟨c2, c3, c4⟩ := c1
      have c3 : Y = [] := c3
      subst c3
      have e1 : l = Du.wl (decide (l.take 5 = Du.addrH)) n := by
        have h2 := List.take_append_drop 5 l
        rw [show l.length - 8 = 5 by omega] at hx
        unfold Du.wl
        rw [hx]
        rcases c4 with q | q
        · rw [if_neg (by rw [q]; decide), ← q, h2]
        · rw [if_pos (by rw [q]; decide), ← q, h2]
      have e2 := Du.put_word (W := W) (S := S) (fun s hs => (hI.hS s hs).2) (decide (l.take 5 = Du.addrH)) n
      have e3 : (if decide (l.take 5 = Du.addrH) = true then S ++ [(W.length : Int)] else S) = if l.take 5 = Du.addrH then S ++ [(W.length : Int)] else S := by
        by_cases q : l.take 5 = Du.addrH
        · rw [if_pos q, if_pos (decide_eq_true q)]
        · rw [if_neg q, if_neg (by rw [decide_eq_false q]; decide)]
      rw [e3, ← e1] at e2
      refine ⟨e2, ⟨fun s hs => ?_, fun x hx => ?_, by simp⟩, by omega⟩
      · have hs : s ∈ (if l.take 5 = Du.addrH then S ++ [(W.length : Int)] else S) := hs
        have hl2 : ((W ++ [n]).length : Int) = W.length + 1 := by simp
        show 0 ≤ s ∧ s < ((W ++ [n]).length : Int)
        rw [hl2]
        split at hs
        · rcases List.mem_append.1 hs with q | q
          · have := hI.hS s q
            have h5 : s < (W.length : Int) := this.2
            omega
          · simp only [List.mem_cons, List.not_mem_nil, or_false] at q
            omega
        · have := hI.hS s hs
          have h5 : s < (W.length : Int) := this.2
          omega
      · rcases List.mem_append.1 hx with q | q
        · exact hI.hW x q
        · simp only [List.mem_cons, List.not_mem_nil, or_false] at q
          subst q
          exact ⟨n0, n1⟩
    · cases h
theorem Du.go_taken : ∀ (bs : List Int) (o : Du.St) (cur : List Int) (o' : Du.St), L.Byt cur → L.Byt bs → Du.Inv o → Du.go o cur bs = some o' → Du.put o.1 o.2.1 o.2.2 ++ cur ++ bs = Du.put o'.1 o'.2.1 o'.2.2 ∧ Du.Inv o'
  | [], o, cur, o', _, _, hI, h => by
    unfold Du.go at h
    split at h
    · rename_i c
      cases h
      rw [c, List.append_nil, List.append_nil]
      exact ⟨rfl, hI⟩
    · cases h
  | b :: bs, o, cur, o', hc, hb, hI, h => by
    have hb0 := hb b List.mem_cons_self
    have hbs : L.Byt bs := fun x hx => hb x (List.mem_cons_of_mem _ hx)
    unfold Du.go at h
    split at h
    · rename_i c
      split at h
      · cases h
      · rename_i o1 ho
        obtain ⟨h1, h2, _⟩ := Du.one_some hc hI ho
        have := Du.go_taken bs o1 [] o' (by intro x hx; cases hx) hbs h2 h
        rw [h1, List.append_nil] at this
        rw [← this.1, c]
        refine ⟨?_, this.2⟩
        simp [List.append_assoc]
    · have := Du.go_taken bs o (cur ++ [b]) o' (fun x hx => by
        rcases List.mem_append.1 hx with q | q
        · exact hc x q
        · simp only [List.mem_cons, List.not_mem_nil, or_false] at q
          rw [q]; exact hb0) hbs hI h
      rw [← this.1]
      refine ⟨?_, this.2⟩
      simp [List.append_assoc]
theorem Du.inv0 : Du.Inv ([], [], []) := ⟨by simp, by simp, by simp⟩
theorem Du.taken {bs W S : List Int} {Y : List Ob.Y} (hb : L.Byt bs) (H : Du.take bs = .ok (W, S, Y)) : Ob.may W S Y = 0 ∧ Du.put W S Y = bs ∧ (∀ x ∈ W, 0 ≤ x ∧ x < 4294967296) ∧ ∀ y ∈ Y, y.1.size ≤ 1000000 := by
  unfold Du.take at H
  split at H
  · cases H
  · rename_i o ho
    split at H
    · rename_i hm
      cases H
      have := Du.go_taken bs _ [] _ (by intro x hx; cases hx) hb Du.inv0 ho
      refine ⟨hm, ?_, this.2.hW, fun y hy => by have := (this.2.hY y hy).2; omega⟩
      rw [← this.1]
      simp [Du.put, Du.lines, Du.wls, Du.text]
    · cases H
theorem Du.take_err {bs : List Int} {e : Int} (H : Du.take bs = .error e) : e = 22 ∨ e = 6 := by
  unfold Du.take at H
  split at H
  · cases H; exact Or.inl rfl
  · split at H
    · cases H
    · cases H; exact Or.inr rfl
/-! cut, and turned -/
theorem Du.one_nil (o : Du.St) : Du.one o [] = none := by unfold Du.one; rw [if_pos (by simp)]
theorem Du.go_drop : ∀ (bs : List Int) (o : Du.St) (cur : List Int) (o' : Du.St), Du.go o cur (bs ++ [10]) = some o' → Du.go o cur bs = none
  | [], o, cur, o', h => by
    rw [List.nil_append] at h
    unfold Du.go at h
    rw [if_pos rfl] at h
    unfold Du.go
    split
    · rename_i c
      rw [c, Du.one_nil] at h
      cases h
    · rfl
  | b :: bs, o, cur, o', h => by
    rw [List.cons_append] at h
    unfold Du.go at h ⊢
    split
    · rename_i c
      rw [if_pos c] at h
      split at h
      · cases h
      · rename_i o1 ho
        exact Du.go_drop bs o1 [] o' h
    · rename_i c
      rw [if_neg c] at h
      exact Du.go_drop bs o (cur ++ [b]) o' h
theorem Du.text_last : ∀ (ls : List (List Int)), Du.text ls = [] ∨ ∃ v, Du.text ls = v ++ [10]
  | [] => Or.inl rfl
  | l :: ls => by
    refine Or.inr ?_
    rw [Du.text_cons]
    rcases Du.text_last ls with h | ⟨v, h⟩
    · rw [h]; exact ⟨l, rfl⟩
    · rw [h]; exact ⟨l ++ 10 :: v, by simp⟩
theorem Du.cut {bs W S : List Int} {Y : List Ob.Y} (hb : L.Byt bs) (H : Du.take bs = .ok (W, S, Y)) (hn : 0 < bs.length) : Du.take (bs.take (bs.length - 1)) = .error 22 := by
  have h1 := (Du.taken hb H).2.1
  have h2 : ∃ v, bs = v ++ [10] := by
    rcases Du.text_last (Du.lines W S Y) with h | ⟨v, h⟩
    · rw [← h1, show Du.put W S Y = [] from h] at hn
      simp at hn
    · exact ⟨v, by rw [← h1]; exact h⟩
  obtain ⟨v, rfl⟩ := h2
  have e : (v ++ [10]).take ((v ++ [10]).length - 1) = v := by simp
  rw [e]
  unfold Du.take at H ⊢
  split at H
  · cases H
  · rename_i o ho
    rw [Du.go_drop v _ _ _ ho]
section
variable {W S : List Int} {Y : List Ob.Y}
theorem Du.put_parts : Du.put W S Y = Du.text (Du.wls S 0 W) ++ Du.text (Y.map Du.nl) := Du.text_append _ _
theorem Du.turned (h : Fi.Ok W S Y) (hW : 0 < W.length) (hY : 0 < Y.length) : Du.take (Du.text (Y.map Du.nl) ++ Du.text (Du.wls S 0 W)) = .error 22 := by
  unfold Du.take
  rw [Du.go_names Y _ _ h.hN]
  cases W with
  | nil => simp at hW
  | cons x W =>
    have hx := h.hr x List.mem_cons_self
    show (match Du.go _ [] (Du.text (Du.wl (decide (((0 : Nat) : Int) ∈ S)) x :: Du.wls S 1 W)) with | none => _ | some o => _) = _
    rw [Du.text_cons, Du.go_line _ _ _ _ (Du.wl_ten _ _), List.nil_append, List.nil_append]
    simp only [Du.one_late (show Y ≠ [] from fun q => by rw [q] at hY; simp at hY) _ hx.1 hx.2]
theorem Du.wls_len : ∀ (ws : List Int) (i : Nat), (Du.text (Du.wls S i ws)).length = 14 * ws.length
  | [], _ => rfl
  | x :: ws, i => by
    show (Du.text (Du.wl _ x :: Du.wls S (i + 1) ws)).length = _
    rw [Du.text_cons, List.length_append, Du.wl_len, List.length_cons, Du.wls_len ws (i + 1), List.length_cons]
    omega
end
end Go.Proofs.Ytpfejjkoemnmiaa
