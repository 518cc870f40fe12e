/-
  Joined: DuR, Du3, Du4.
-/
import Derived.Laws.MakeOwn
import Derived.Laws.RangeAny
import Derived.Test.YtpfejjkoemnmiaaDuQ
import Derived.Test.YtpfejjkoemnmiaaDu1
import Derived.Test.YtpfejjkoemnmiaaCh3
import Derived.Test.YtpfejjkoemnmiaaM06
/-
  Package dump, plainly: a line as it is read, piece by piece: cut at its first blank.
-/
namespace Go.Proofs.Ytpfejjkoemnmiaa
open Go.RowKit
set_option linter.unusedVariables false
set_option linter.unusedSimpArgs false
set_option maxRecDepth 100000
set_option maxRecDepth 100000
theorem Du.uniq {c : Int} : ∀ {a a' b b' : List Int}, a ++ c :: b = a' ++ c :: b' → c ∉ a → c ∉ a' → a = a' ∧ b = b'
  | [], [], b, b', h, _, _ => by simp at h; exact ⟨rfl, h⟩
  | [], x :: a', b, b', h, _, h2 => by
    simp only [List.nil_append, List.cons_append, List.cons.injEq] at h
    exact absurd (by rw [← h.1]; exact List.mem_cons_self) h2
  | x :: a, [], b, b', h, h1, _ => by
    simp only [List.nil_append, List.cons_append, List.cons.injEq] at h
    exact absurd (by rw [h.1]; exact List.mem_cons_self) h1
  | x :: a, y :: a', b, b', h, h1, h2 => by
    simp only [List.cons_append, List.cons.injEq] at h
    have := Du.uniq h.2 (fun q => h1 (List.mem_cons_of_mem _ q)) (fun q => h2 (List.mem_cons_of_mem _ q))
    exact ⟨by rw [h.1, this.1], this.2⟩
/-- a list is without a number, or has a first one -/
theorem Du.first (c : Int) : ∀ l : List Int, c ∉ l ∨ ∃ a b, l = a ++ c :: b ∧ c ∉ a
  | [] => Or.inl (by simp)
  | x :: l => by
    by_cases h : c = x
    · exact Or.inr ⟨[], l, by rw [h]; rfl, by simp⟩
    · rcases Du.first c l with q | ⟨a, b, q, r⟩
      · exact Or.inl (fun m => by rcases List.mem_cons.1 m with m | m; exact h m; exact q m)
      · exact Or.inr ⟨x :: a, b, by rw [q]; rfl, fun m => by rcases List.mem_cons.1 m with m | m; exact h m; exact r m⟩
theorem Du.one_inv {o o' : Du.St} {l : List Int} (hb : L.Byt l) (h : Du.one o l = some o') : (o.2.2 = [] ∧ ∃ b n, 0 ≤ n ∧ n < 4294967296 ∧ l = Du.wl b n) ∨ ∃ y, Fi.OkY y ∧ l = Du.nl y := by
  unfold Du.one at h
  split at h
  · cases h
  rename_i hl
  split at h
  · cases h
  rename_i n hn
  obtain ⟨hx, n0, n1⟩ := Du.hex_num hn
  split at h
  · rename_i c1
    split at h
    · rename_i c2
      refine Or.inr ⟨(strOfNums ((l.take (l.length - 9)).drop 5), n), ?_, ?_⟩
      · have hxb : L.Byt ((l.take (l.length - 9)).drop 5) := fun x hx => hb x (List.mem_of_mem_take (List.mem_of_mem_drop hx))
        refine ⟨?_, n0, n1⟩
        show L.name (L.bs _) = true
        rw [L.bs_str _ hxb]; exact c2.1
      · have hxb : L.Byt ((l.take (l.length - 9)).drop 5) := fun x hx => hb x (List.mem_of_mem_take (List.mem_of_mem_drop hx))
        have hbs := L.bs_str _ hxb
        have hg : l[l.length - 9]? = some 32 := by
          have h1 := c2.2
          rw [List.getD_eq_getElem?_getD, List.getElem?_eq_getElem (by omega)] at h1
          rw [List.getElem?_eq_getElem (by omega)]
          simpa using h1
        unfold Du.nl
        simp only []
        rw [hbs, hx, ← c1.1]
        have h2 : l.take 5 ++ (l.take (l.length - 9)).drop 5 = l.take (l.length - 9) := by
          have := List.take_append_drop 5 (l.take (l.length - 9))
          rwa [List.take_take, Nat.min_eq_left (by omega)] at this
        rw [h2]
        have h3 : l.take (l.length - 9) ++ [32] = l.take (l.length - 8) := by
          rw [show l.length - 8 = (l.length - 9) + 1 by omega, List.take_add_one, hg]; rfl
        rw [h3]
        exact (List.take_append_drop _ _).symm
    · cases h
  · split at h
    · rename_i c1
      obtain ⟨c2, c3, c4⟩ := c1
      refine Or.inl ⟨c3, decide (l.take 5 = Du.addrH), n, n0, n1, ?_⟩
      have h2 := List.take_append_drop 5 l
      rw [show l.length - 8 = 5 by omega] at hx
      unfold Du.wl
      rw [hx]
      rcases c4 with q | q
      · rw [if_neg (by rw [q]; decide), ← q, h2]
      · rw [if_pos (by rw [q]; decide), ← q, h2]
    · cases h
/-- what a line begins with -/
def Du.kind (b : Bool) : List Int := if b = true then [97, 100, 100, 114] else [119, 111, 114, 100]
def Du.nameK : List Int := [110, 97, 109, 101]
theorem Du.wl_cut (b : Bool) (n : Int) : Du.wl b n = Du.kind b ++ 32 :: Du.hex n := by cases b <;> rfl
theorem Du.nl_cut (y : Ob.Y) : Du.nl y = Du.nameK ++ 32 :: (L.bs y.1 ++ 32 :: Du.hex y.2) := by
  unfold Du.nl
  simp [Du.nameH, Du.nameK]
theorem Du.kind_blank (b : Bool) : (32 : Int) ∉ Du.kind b := by cases b <;> decide
theorem Du.nameK_blank : (32 : Int) ∉ Du.nameK := by decide
theorem Du.name_blank {l : List Int} (h : L.name l = true) : (32 : Int) ∉ l := by
  intro hc
  unfold L.name at h
  simp only [Bool.and_eq_true] at h
  have h2 := List.all_eq_true.1 h.2 32 hc
  revert h2
  decide
theorem Du.none_of {o : Du.St} {l : List Int} (h : ∀ o', Du.one o l ≠ some o') : Du.one o l = none := by
  cases hq : Du.one o l with
  | none => rfl
  | some o' => exact absurd hq (h o')
section
variable {o : Du.St} {l k r : List Int}
theorem Du.one_miss (hb : L.Byt l) (h : (32 : Int) ∉ l) : Du.one o l = none := Du.none_of fun o' hq => by
  rcases Du.one_inv hb hq with ⟨_, b, n, _, _, e⟩ | ⟨y, _, e⟩
  · rw [e, Du.wl_cut] at h; exact h (by simp)
  · rw [e, Du.nl_cut] at h; exact h (by simp)
theorem Du.one_else (hb : L.Byt (k ++ 32 :: r)) (h : (32 : Int) ∉ k) (h1 : k ≠ Du.kind true) (h2 : k ≠ Du.kind false) (h3 : k ≠ Du.nameK) : Du.one o (k ++ 32 :: r) = none := Du.none_of fun o' hq => by
  rcases Du.one_inv hb hq with ⟨_, b, n, _, _, e⟩ | ⟨y, _, e⟩
  · rw [Du.wl_cut] at e
    have := (Du.uniq e h (Du.kind_blank b)).1
    cases b
    · exact h2 this
    · exact h1 this
  · rw [Du.nl_cut] at e
    exact h3 (Du.uniq e h Du.nameK_blank).1
theorem Du.kind_inj {a b : Bool} (h : Du.kind a = Du.kind b) : a = b := by
  cases a <;> cases b <;> first | rfl | (revert h; decide)
theorem Du.kind_name (b : Bool) : Du.kind b ≠ Du.nameK := by cases b <;> decide
theorem Du.word_no {b : Bool} (hb : L.Byt (Du.kind b ++ 32 :: r)) (h : Du.num r = none) : Du.one o (Du.kind b ++ 32 :: r) = none := Du.none_of fun o' hq => by
  rcases Du.one_inv hb hq with ⟨_, b', n, n0, n1, e⟩ | ⟨y, _, e⟩
  · rw [Du.wl_cut] at e
    rw [(Du.uniq e (Du.kind_blank b) (Du.kind_blank b')).2, Du.num_hex n0 n1] at h
    cases h
  · rw [Du.nl_cut] at e
    exact Du.kind_name b (Du.uniq e (Du.kind_blank b) Du.nameK_blank).1
theorem Du.word_late {b : Bool} (hb : L.Byt (Du.kind b ++ 32 :: r)) (h : o.2.2 ≠ []) : Du.one o (Du.kind b ++ 32 :: r) = none := Du.none_of fun o' hq => by
  rcases Du.one_inv hb hq with ⟨hy, _⟩ | ⟨y, _, e⟩
  · exact h hy
  · rw [Du.nl_cut] at e
    exact Du.kind_name b (Du.uniq e (Du.kind_blank b) Du.nameK_blank).1
theorem Du.word_yes {b : Bool} {W S : List Int} {n : Int} (h : Du.num r = some n) : Du.one (W, S, []) (Du.kind b ++ 32 :: r) = some (W ++ [n], (if b = true then S ++ [(W.length : Int)] else S), []) := by
  obtain ⟨e, n0, n1⟩ := Du.hex_num h
  rw [← e, ← Du.wl_cut, Du.one_word b n0 n1]
theorem Du.name_miss (hb : L.Byt (Du.nameK ++ 32 :: r)) (h : (32 : Int) ∉ r) : Du.one o (Du.nameK ++ 32 :: r) = none := Du.none_of fun o' hq => by
  rcases Du.one_inv hb hq with ⟨_, b', n, n0, n1, e⟩ | ⟨y, _, e⟩
  · rw [Du.wl_cut] at e
    exact Du.kind_name b' (Du.uniq e Du.nameK_blank (Du.kind_blank b')).1.symm
  · rw [Du.nl_cut] at e
    rw [(Du.uniq e Du.nameK_blank Du.nameK_blank).2] at h
    exact h (by simp)
theorem Du.name_no {nm ds : List Int} (hb : L.Byt (Du.nameK ++ 32 :: (nm ++ 32 :: ds))) (hn : (32 : Int) ∉ nm) (h : Du.num ds = none ∨ L.name nm = false) : Du.one o (Du.nameK ++ 32 :: (nm ++ 32 :: ds)) = none := Du.none_of fun o' hq => by
  rcases Du.one_inv hb hq with ⟨_, b', n, n0, n1, e⟩ | ⟨y, hy, e⟩
  · rw [Du.wl_cut] at e
    exact Du.kind_name b' (Du.uniq e Du.nameK_blank (Du.kind_blank b')).1.symm
  · rw [Du.nl_cut] at e
    have e2 := Du.uniq (Du.uniq e Du.nameK_blank Du.nameK_blank).2 hn (Du.name_blank hy.1)
    rcases h with h | h
    · rw [e2.2, Du.num_hex hy.2.1 hy.2.2] at h; cases h
    · rw [e2.1] at h
      have : L.name (L.bs y.1) = true := hy.1
      rw [this] at h; cases h
theorem Du.name_yes {nm ds : List Int} {n : Int} (hb : L.Byt nm) (h : Du.num ds = some n) (hn : L.name nm = true) : Du.one o (Du.nameK ++ 32 :: (nm ++ 32 :: ds)) = some (o.1, o.2.1, o.2.2 ++ [(strOfNums nm, n)]) := by
  obtain ⟨e, n0, n1⟩ := Du.hex_num h
  have hbs := L.bs_str nm hb
  have e2 : Du.nl (strOfNums nm, n) = Du.nameK ++ 32 :: (nm ++ 32 :: ds) := by rw [Du.nl_cut]; simp only []; rw [hbs, e]
  rw [← e2]
  refine Du.one_name ⟨?_, n0, n1⟩
  show L.name (L.bs _) = true
  rw [hbs]; exact hn
end
theorem Du.go_end (o : Du.St) : Du.go o [] [] = some o := by unfold Du.go; rw [if_pos rfl]
theorem Du.go_miss : ∀ (l : List Int) (o : Du.St) (cur : List Int), (10 : Int) ∉ l → cur ++ l ≠ [] → Du.go o cur l = none
  | [], o, cur, _, hc => by
    unfold Du.go
    rw [if_neg (by simpa using hc)]
  | b :: l, o, cur, h, hc => by
    unfold Du.go
    rw [if_neg (fun e => h (by rw [e]; exact List.mem_cons_self)), Du.go_miss l o (cur ++ [b]) (fun q => h (List.mem_cons_of_mem _ q)) (by simp)]
theorem Du.go_hit {a r : List Int} (o : Du.St) (h : (10 : Int) ∉ a) : Du.go o [] (a ++ 10 :: r) = match Du.one o a with | none => none | some o' => Du.go o' [] r := by
  rw [Du.go_line a o [] r (fun b hb e => h (e ▸ hb)), List.nil_append]
  rfl
/-- digits, one by one -/
theorem Du.nums_no {a c : Int} {cs : List Int} (h : Du.val c = none) : Du.nums a (c :: cs) = none := by unfold Du.nums; rw [h]
theorem Du.nums_yes {a c v : Int} {cs : List Int} (h : Du.val c = some v) : Du.nums a (c :: cs) = Du.nums (a * 16 + v) cs := by
  conv => lhs; unfold Du.nums
  rw [h]
theorem Du.nums_nil (a : Int) : Du.nums a [] = some a := rfl
end Go.Proofs.Ytpfejjkoemnmiaa
/-
  The contracts of Hex of package dump and of the document's.
-/
namespace Go.Proofs.Ytpfejjkoemnmiaa
open Go.RowKit
set_option linter.unusedVariables false
set_option linter.unusedSimpArgs false
set_option maxRecDepth 100000
theorem Du.and_low (x : Int) (x0 : 0 ≤ x) (x1 : x < 4294967296) : bits .and .u32 x 15 = x % 16 := by
  obtain ⟨X, rfl⟩ := Int.eq_ofNat_of_zero_le x0
  rw [show (15 : Int) = ((15 : Nat) : Int) from rfl, u32_and_nat _ _ (by omega) (by omega), show (15 : Nat) = 2 ^ 4 - 1 from rfl, Nat.and_two_pow_sub_one_eq_mod]
  omega
def Du.digS : ByteArray := ⟨#[48, 49, 50, 51, 52, 53, 54, 55, 56, 57, 65, 66, 67, 68, 69, 70]⟩
theorem Du.digS_at (v : Int) (h0 : 0 ≤ v) (h1 : v < 16) (hk : v.toNat < Du.digS.size) : ((Du.digS[v.toNat]'hk).toNat : Int) = Du.dig v := by
  obtain ⟨n, rfl⟩ := Int.eq_ofNat_of_zero_le h0
  have key : ∀ n : Nat, n < 16 → ∀ hk : ((n : Int)).toNat < Du.digS.size, ((Du.digS[((n : Int)).toNat]'hk).toNat : Int) = Du.dig n := by decide
  exact key n (by omega) hk
/-- the digit at a place -/
theorem Du.hex_at (x : Int) (h0 : 0 ≤ x) (k : Nat) (hk : k < 8) : (Du.hex x).drop (7 - k) = Du.dig (x / 2 ^ (4 * k) % 16) :: (Du.hex x).drop (8 - k) := by
  match k, hk with
  | 0, _ => simp [Du.hex]
  | 1, _ => simp [Du.hex]
  | 2, _ => simp [Du.hex]
  | 3, _ => simp [Du.hex]
  | 4, _ => simp [Du.hex]
  | 5, _ => simp [Du.hex]
  | 6, _ => simp [Du.hex]
  | 7, _ => simp [Du.hex]
theorem Du.set_drop {cs : Array Value} {ys : List Value} {k : Nat} {y v : Value} (hk : k < 8) (hs : cs.size = 8) (hd : cs.toList.drop (8 - k) = ys) (he : v = y) : (cs.setIfInBounds (7 - k) v).toList.drop (8 - (k + 1)) = y :: ys := by
  subst he
  rw [Array.toList_setIfInBounds, show 8 - (k + 1) = 7 - k by omega, List.drop_set]
  rw [if_neg (by omega), Nat.sub_self]
  have hl : 7 - k < cs.toList.length := by rw [Array.length_toList, hs]; omega
  rw [List.drop_eq_getElem_cons hl, List.set_cons_zero, show 7 - k + 1 = 8 - k by omega, hd]
set_option maxHeartbeats 4000000 in
set_option maxRecDepth 100000 in
theorem Du.hex_any {x : Int} (h0 : 0 ≤ x) (h1 : x < 4294967296) (w : World) :
    Calls Try.prog 16 #[.int .u32 x] w fun e w' => e = .returned (.string (strOfNums (Du.hex x))) ∧ Below w.heap.size w w' := by
  obtain ⟨i0, hi, hz0, hz1, hz2⟩ := info_parts L.info8
  obtain ⟨M, hM⟩ : ∃ M, M = madeCells (Value.int .u8 0).cells ((8 : Int).toNat * i0.size) := ⟨_, rfl⟩
  have hMs : M.size = 8 := by rw [hM, size_madeCells, hz1]; simp
  have hmk : ∀ W : World, (Instr.makeSlice 42 (.int .i64 8) (.int .i64 8)).run Try.prog W = .ok (.slice (some ⟨W.heap.size, 0, none⟩) 8 8) (W.alloc (.cells M 5)) := fun W => by
    have h := run_make (P := Try.prog) W 42 5 i0 (.int .u8 0) Try.underlying42 hi hz0 .i64 .i64 8 8 (by omega) (by omega) (by rw [hz2]; omega) (by omega)
    rw [← hM] at h
    simpa using h
  have hB0 := Lib.hid (((Below.refl w.heap.size w).alloc (Nat.le_refl _) (.cells M 5)))
  have hH0 := Lib.hid (Has.new M 5 w)
  clear hM hi hz0 hz1 hz2
  go_enter Try.func16, Try.ntmps16
  go_wp2
  clear hmk
  go_loopw [6] (fun i wr => ∃ (k : Nat) (cs : Array Value), k ≤ 8 ∧ i = .int .i64 k ∧ Has w.heap.size cs 5 wr ∧ cs.size = 8 ∧ cs.toList.drop (8 - k) = ((Du.hex x).drop (8 - k)).map (Value.int .u8) ∧ Below w.heap.size w wr) (fun i _ => 8 - (intOf i).toNat)
  case atStart => exact ⟨0, M, by omega, rfl, hH0.out, hMs, by rw [List.drop_of_length_le (by rw [Array.length_toList, hMs]; omega), List.drop_of_length_le (by rw [Du.hex_len]; omega)]; rfl, hB0.out⟩
  case round =>
    clear hH0 hB0 hMs
    obtain ⟨k, cs, hk, rfl, hH, hs, hd, hB⟩ := hrel
    by_cases d1 : k < 8
    · have d2 : (k : Int) < 8 := by omega
      have hq0 : 0 ≤ x / 2 ^ (4 * k) := Int.ediv_nonneg h0 (Int.pow_nonneg (by omega))
      have hq1 : x / 2 ^ (4 * k) < 4294967296 := Int.lt_of_le_of_lt (Int.ediv_le_self _ h0) h1
      have hv := Du.and_low (x / 2 ^ (4 * k)) hq0 hq1
      have hx := Du.hex_at x h0 k d1
      have hv1 : 0 ≤ bits .and .u32 (x / 2 ^ (4 * k)) 15 := by rw [hv]; omega
      have hv2 : bits .and .u32 (x / 2 ^ (4 * k)) 15 < 16 := by rw [hv]; omega
      rw [← hv] at hx
      clear hv hq0 hq1
      generalize hV : bits .and .u32 (x / 2 ^ (4 * k)) 15 = V at *
      replace hV := Lib.hid hV
      obtain ⟨cell, hcell⟩ : ∃ c, cs[7 - k]? = some c := ⟨_, Array.getElem?_eq_getElem (by omega)⟩
      have g1 := hH.cell (7 - k) _ hcell
      have f1 := hH.free (7 - k)
      have hHn := Lib.hid hH
      have hBn := Lib.hid hB
      rw [← hV.out] at hv1 hv2
      go_wp2
      refine ⟨⟨k + 1, _, by omega, by go_num, hHn.out.set (7 - k) _, by simp [hs], ?_, hBn.out.setCell (p := ⟨w.heap.size, 7 - k, none⟩) (Nat.le_refl _) _⟩, by simp [intOf]; omega⟩
      rw [Du.set_drop (y := .int .u8 (Du.dig V)) d1 hs hd (by
        have h := Du.digS_at _ hv1 hv2 (by show _ < 16; omega)
        exact congrArg (Value.int .u8) (h.trans (congrArg Du.dig hV.out))), show 8 - (k + 1) = 7 - k by omega, hx]
      rfl
    · have d2 : ¬ (k : Int) < 8 := by omega
      obtain rfl : k = 8 := by omega
      have hcs : cs.toList = (Du.hex x).map (Value.int .u8) := hd
      have hRow : By wr (some ⟨w.heap.size, 0, none⟩) 8 8 (Du.hex x) := by
        refine Rw.of (k := .u8) (L := 256) (t := 5) (Du.hex x) ?_ (by rw [Du.hex_len]; unfold maxLen; omega) (fun c hc => by have := Du.hex_rng x c hc; omega)
        rw [← hcs]; exact hH
      go_wp2_with (first
        | (with_reducible refine want_do (o := ⟨some 21, _, _, _, _, _⟩) rfl (exec_text Try.underlying42 Try.underlying5 Try.underlying9 (.tmp 20) rfl rfl hRow) ?_)
        | fail)
      go_ret
      exact ⟨rfl, hB⟩
theorem L.bs_inj {a b : ByteArray} (h : L.bs a = L.bs b) : a = b := by rw [← L.str_bs a, ← L.str_bs b, h]
/-- x, so many digits less -/
def Du.less (x : Int) (j : Nat) : Int := x / 2 ^ (4 * j)
theorem Du.less_0 (x : Int) : Du.less x 0 = x := by simp [Du.less]
theorem Du.less_1 (x : Int) (j : Nat) : Du.less x j / 16 = Du.less x (j + 1) := by
  unfold Du.less
  rw [show 4 * (j + 1) = 4 * j + 4 by omega, Int.pow_add, Int.ediv_ediv_of_nonneg (Int.pow_nonneg (by omega))]
  rfl
theorem Du.less_rng {x : Int} (h0 : 0 ≤ x) (h1 : x < 4294967296) (j : Nat) : 0 ≤ Du.less x j ∧ Du.less x j < 4294967296 :=
  ⟨Int.ediv_nonneg h0 (Int.pow_nonneg (by omega)), Int.lt_of_le_of_lt (Int.ediv_le_self _ h0) h1⟩
theorem Du.digS_cut (v : Int) (h0 : 0 ≤ v) (h1 : v < 16) : L.bs (Du.digS.extract v.toNat (v.toNat + 1)) = [Du.dig v] := by
  obtain ⟨n, rfl⟩ := Int.eq_ofNat_of_zero_le h0
  have key : ∀ n : Nat, n < 16 → L.bs (Du.digS.extract ((n : Int)).toNat (((n : Int)).toNat + 1)) = [Du.dig n] := by decide
  exact key n (by omega)
set_option maxHeartbeats 4000000 in
set_option maxRecDepth 100000 in
theorem Du.rhex_any {x : Int} (h0 : 0 ≤ x) (h1 : x < 4294967296) (w : World) :
    Calls Try.prog 19 #[.int .u32 x] w fun e w' => e = .returned (.string (strOfNums (Du.hex x))) ∧ w = w' := by
  go_enter Try.func19, Try.ntmps19
  go_wp2
  go_loopw [0, 4, 5] (fun x0 o i wr => ∃ (j : Nat) (s : ByteArray), j ≤ 8 ∧ i = .int .i64 j ∧ x0 = .int .u32 (Du.less x j) ∧ o = .string s ∧ L.bs s = (Du.hex x).drop (8 - j) ∧ w = wr) (fun _ _ i _ => 8 - (intOf i).toNat)
  case atStart => exact ⟨0, _, by omega, rfl, by rw [Du.less_0], rfl, by rw [List.drop_of_length_le (by rw [Du.hex_len]; omega)]; rfl, rfl⟩
  case round =>
    obtain ⟨j, s, hj, rfl, rfl, rfl, hs, rfl⟩ := hrel
    obtain ⟨r0, r1⟩ := Du.less_rng h0 h1 j
    have hn := Du.less_1 x j
    by_cases d1 : j < 8
    · have d2 : (j : Int) < 8 := by omega
      have hx := Du.hex_at x h0 j d1
      rw [show x / 2 ^ (4 * j) = Du.less x j from rfl] at hx
      have hss : s.size = j := by rw [← L.bs_len, hs, List.length_drop, Du.hex_len]; omega
      generalize Du.less x j = X at *
      have hcat : ¬9223372036854775807 < min (X % 16 + 1).toNat 16 - (X % 16).toNat + s.size := by omega
      have he : (X % 16 + 1).toNat = (X % 16).toNat + 1 := by omega
      have hd := Du.digS_cut (X % 16) (by omega) (by omega)
      rw [← he] at hd
      replace hd := Lib.hid hd
      clear he
      go_wp2
      refine ⟨⟨j + 1, _, by omega, by go_num, by rw [hn], rfl, ?_, trivial⟩, by simp [intOf]; omega⟩
      rw [show 8 - (j + 1) = 7 - j by omega, hx, ← hs]
      exact (L.bs_append _ _).trans (by rw [show L.bs (ByteArray.extract ⟨#[48, 49, 50, 51, 52, 53, 54, 55, 56, 57, 65, 66, 67, 68, 69, 70]⟩ (X % 16).toNat (X % 16 + 1).toNat) = _ from hd.out]; rfl)
    · have d2 : ¬ (j : Int) < 8 := by omega
      obtain rfl : j = 8 := by omega
      have hs2 : s = strOfNums (Du.hex x) := by rw [← L.str_bs s, hs]; rfl
      subst hs2
      go_wp2
      go_ret
      exact ⟨rfl, rfl⟩
end Go.Proofs.Ytpfejjkoemnmiaa
/-
  The contracts of Number of package dump and of the document's.
-/
namespace Go.Proofs.Ytpfejjkoemnmiaa
open Go.RowKit
set_option linter.unusedVariables false
set_option linter.unusedSimpArgs false
set_option maxRecDepth 100000
/-- what Number hands back -/
def Du.numV : Option Int → Value
  | some n => .tuple #[.int .u32 n, .bool true]
  | none => .tuple #[.int .u32 0, .bool false]
set_option maxRecDepth 100000 in
theorem Du.digit_any (c : Int) (c0 : 0 ≤ c) (c1 : c ≤ 2147483647) (w : World) : Calls Try.prog 33 #[.int .i32 c] w fun e w' => e = .returned (Du.numV (Du.val c)) ∧ w = w' := by
  unfold Du.val
  by_cases a1 : 48 ≤ c <;> by_cases a2 : c ≤ 57 <;> by_cases a3 : 65 ≤ c <;> by_cases a4 : c ≤ 70
  all_goals first
    | (exfalso; omega)
    | (simp only [a1, a2, a3, a4, and_self, and_true, and_false, true_and, false_and, if_true, if_false]
       go_enter Try.func33, Try.ntmps33
       go_wp2
       go_ret2
       refine ⟨?_, rfl⟩
       first
       | rfl
       | (show Ending.returned (.tuple #[.int .u32 (c - 65 + 10), .bool true]) = _; rw [show c - 65 + 10 = c - 55 by omega]; rfl))
theorem Du.pow7 {j : Nat} (h : j ≤ 7) : (16 : Int) ^ j ≤ 268435456 := by
  match j, h with
  | 0, _ => decide
  | 1, _ => decide
  | 2, _ => decide
  | 3, _ => decide
  | 4, _ => decide
  | 5, _ => decide
  | 6, _ => decide
  | 7, _ => decide
theorem Du.pow_step {a v : Int} {j : Nat} (h : a < 16 ^ j) (hv : v < 16) : a * 16 + v < 16 ^ (j + 1) := by
  rw [Int.pow_succ]; omega
theorem Du.drop_at {s : ByteArray} {j : Nat} (h : j < s.size) : (L.bs s).drop j = ((s[j]'h).toNat : Int) :: (L.bs s).drop (j + 1) := by
  have hl : j < (L.bs s).length := by rw [L.bs_len]; exact h
  rw [List.drop_eq_getElem_cons hl, L.bs_at s j h]
theorem Du.val_high {c : Int} (h : 128 ≤ c) : Du.val c = none := by
  unfold Du.val
  rw [if_neg (by omega), if_neg (by omega)]
theorem Du.or4 {a v : Int} (a0 : 0 ≤ a) (a1 : a < 268435456) (v0 : 0 ≤ v) (v1 : v < 16) : bits .or .u32 (a * 16) v = a * 16 + v := by
  obtain ⟨A, rfl⟩ := Int.eq_ofNat_of_zero_le a0
  obtain ⟨V, rfl⟩ := Int.eq_ofNat_of_zero_le v0
  rw [show ((A : Int) * 16) = ((A * 16 : Nat) : Int) by omega, u32_or_nat _ _ (by omega) (by omega)]
  have e : A * 16 ||| V = A * 16 + V := by
    have := Nat.shiftLeft_add_eq_or_of_lt (i := 4) (b := V) (by omega) A
    rw [Nat.shiftLeft_eq] at this
    exact this.symm
  rw [e]; omega
set_option maxHeartbeats 4000000 in
set_option maxRecDepth 100000 in
theorem Du.number_any (s : ByteArray) (hs : s.size ≤ 1000000000) (w : World) :
    Calls Try.prog 17 #[.string s] w fun e w' => e = .returned (Du.numV (Du.num (L.bs s))) ∧ Below w.heap.size w w' := by
  obtain ⟨R, hR⟩ : ∃ R, Du.num (L.bs s) = R := ⟨_, rfl⟩
  rw [hR]
  by_cases c8 : s.size = 8
  case neg =>
    have hRn : R = none := by rw [← hR]; unfold Du.num; rw [L.bs_len, if_neg c8]
    subst hRn
    have c9 : ((s.size : Int) == 8) = false := by simp; omega
    have c10 : ((s.size : Int) != 8) = true := by simp; omega
    go_enter Try.func17, Try.ntmps17
    go_wp2
    go_ret2
    exact ⟨rfl, Below.refl _ _⟩
  have c9 : ((s.size : Int) == 8) = true := by simp; omega
  have c10 : ((s.size : Int) != 8) = false := by simp; omega
  have hR2 : Du.nums 0 (L.bs s) = R := by rw [← hR]; unfold Du.num; rw [L.bs_len, if_pos c8]
  replace hR2 := Lib.hid hR2
  clear hR
  go_enter Try.func17, Try.ntmps17
  go_wp2
  go_loopw [4] (fun x wr => ∃ (j : Nat) (a : Int), j ≤ 8 ∧ x = .int .u32 a ∧ 0 ≤ a ∧ a < 16 ^ j ∧ wr = w.iter s j ∧ Du.nums a ((L.bs s).drop j) = R) (fun _ wr => 8 - wr.iterPos w.heap.size)
  case atStart => exact ⟨0, 0, by omega, rfl, by omega, by decide, rfl, hR2.out⟩
  case round =>
    obtain ⟨j, a, hj, rfl, a0, a1, rfl, hX⟩ := hrel
    clear hR2
    by_cases d1 : j < 8
    · have hlt : j < s.size := by omega
      have ha7 := Du.pow7 (j := j) (by omega)
      have hdr := Du.drop_at hlt
      rw [hdr] at hX
      by_cases cA : (s[j]'hlt).toNat < 128
      · have hnx := fun ty => run_next_ascii (P := Try.prog) w s j ty hlt cA
        generalize hq : (s[j]'hlt).toNat = q at *
        go_wp2_with (fail)
        refine (Du.digit_any (q : Int) (by omega) (by omega) _).mono ?_; rintro e w2 ⟨rfl, rfl⟩
        cases hv : Du.val (q : Int) with
        | none =>
          rw [Du.nums_no hv] at hX
          subst hX
          rw [show Du.numV none = .tuple #[.int .u32 0, .bool false] from rfl]
          go_wp2
          go_ret2
          exact ⟨rfl, (Below.refl _ w).alloc (Nat.le_refl _) _⟩
        | some v =>
          rw [Du.nums_yes hv] at hX
          obtain ⟨_, v0, v1⟩ := Du.dig_val hv
          rw [show Du.numV (some v) = .tuple #[.int .u32 v, .bool true] from rfl]
          have ho := Du.or4 a0 (by omega) v0 v1
          have hp := Du.pow_step a1 v1
          go_wp2
          exact ⟨⟨j + 1, a * 16 + v, by omega, rfl, by omega, hp, rfl, hX⟩, by rw [World.iterPos_iter, World.iterPos_iter]; omega⟩
      · have hh := decode_high s j hlt (by omega)
        have hle := decode_le s j
        have hnx := fun ty => run_next_any (P := Try.prog) w s j ty hlt
        have hqq := Du.val_high (c := ((s[j]'hlt).toNat : Int)) (by omega)
        rw [Du.nums_no hqq] at hX
        subst hX
        generalize Utf8.decode s j = dd at *
        obtain ⟨d, d'⟩ := dd
        have hh := hh.1
        have hle : d ≤ 2147483647 := hle
        have hh : 128 ≤ d := hh
        go_wp2_with (fail)
        refine (Du.digit_any (d : Int) (by omega) (by omega) _).mono ?_; rintro e w2 ⟨rfl, rfl⟩
        rw [Du.val_high (c := (d : Int)) (by omega)]
        rw [show Du.numV none = .tuple #[.int .u32 0, .bool false] from rfl]
        go_wp2
        go_ret2
        exact ⟨rfl, (Below.refl _ w).alloc (Nat.le_refl _) _⟩
    · obtain rfl : j = 8 := by omega
      have hnx := fun ty => run_next_end (P := Try.prog) w s 8 ty (by omega)
      rw [List.drop_of_length_le (by rw [L.bs_len]; omega), Du.nums_nil] at hX
      subst hX
      go_wp2
      go_ret2
      exact ⟨rfl, (Below.refl _ w).alloc (Nat.le_refl _) _⟩
set_option maxHeartbeats 4000000 in
set_option maxRecDepth 100000 in
theorem Du.rnumber_any (s : ByteArray) (hs : s.size ≤ 1000000000) (w : World) :
    Calls Try.prog 18 #[.string s] w fun e w' => e = .returned (Du.numV (Du.num (L.bs s))) ∧ w = w' := by
  obtain ⟨R, hR⟩ : ∃ R, Du.num (L.bs s) = R := ⟨_, rfl⟩
  rw [hR]
  have hR8 : s.size = 8 → Du.nums 0 (L.bs s) = R := fun c8 => by rw [← hR]; unfold Du.num; rw [L.bs_len, if_pos c8]
  have hRn : s.size ≠ 8 → R = none := fun c8 => by rw [← hR]; unfold Du.num; rw [L.bs_len, if_neg c8]
  replace hR8 := Lib.hid hR8
  replace hRn := Lib.hid hRn
  clear hR
  go_enter Try.func18, Try.ntmps18
  go_wp2
  go_loopw [4, 5] (fun x i wr => ∃ (j : Nat) (a : Int), j ≤ s.size ∧ i = .int .i64 j ∧ x = .int .u32 a ∧ 0 ≤ a ∧ a < 4294967296 ∧ (s.size = 8 → a < 16 ^ j ∧ Du.nums a ((L.bs s).drop j) = R) ∧ w = wr) (fun _ i _ => s.size - (intOf i).toNat)
  case atStart => exact ⟨0, 0, by omega, rfl, rfl, by omega, by omega, fun c => ⟨by decide, hR8.out c⟩, rfl⟩
  case round =>
    obtain ⟨j, a, hj, rfl, rfl, a0, a1, hX, rfl⟩ := hrel
    clear hR8
    by_cases d1 : j < s.size
    · have d2 : (j : Int) < s.size := by omega
      have hdr := Du.drop_at d1
      rw [hdr] at hX
      have hc0 : ((s[j]'d1).toNat : Int) < 256 := by have := (s[j]'d1).toNat_lt; omega
      cases hv : Du.val ((s[j]'d1).toNat : Int) with
      | none =>
        have hRx : R = none := by
          by_cases c8 : s.size = 8
          · rw [← (hX c8).2, Du.nums_no hv]
          · exact hRn.out c8
        subst hRx
        unfold Du.val at hv
        have hn1 : ¬ (48 ≤ ((s[j]'d1).toNat : Int) ∧ ((s[j]'d1).toNat : Int) ≤ 57) := fun q => by rw [if_pos q] at hv; cases hv
        have hn2 : ¬ (65 ≤ ((s[j]'d1).toNat : Int) ∧ ((s[j]'d1).toNat : Int) ≤ 70) := fun q => by rw [if_neg hn1, if_pos q] at hv; cases hv
        clear hX hv
        generalize hq : ((s[j]'d1).toNat : Int) = q at *
        replace hq := Lib.hid hq
        by_cases b1 : 48 ≤ q <;> by_cases b2 : q ≤ 57 <;> by_cases b3 : 65 ≤ q <;> by_cases b4 : q ≤ 70
        all_goals first
          | (exfalso; omega)
          | (have hq2 := hq.out
             go_wp2
             go_ret2
             exact ⟨rfl, rfl⟩)
      | some v =>
        obtain ⟨_, v0, v1⟩ := Du.dig_val hv
        have hX2 := Lib.hid (fun c8 : s.size = 8 => (show a * 16 + v < 16 ^ (j + 1) ∧ Du.nums (a * 16 + v) ((L.bs s).drop (j + 1)) = R from ⟨Du.pow_step (hX c8).1 v1, by rw [← Du.nums_yes hv]; exact (hX c8).2⟩))
        have hX3 := Lib.hid (fun c8 : s.size = 8 => (show a < 268435456 by have h1 := (hX c8).1; have h2 := Du.pow7 (j := j) (by omega); omega))
        clear hX
        generalize hq : ((s[j]'d1).toNat : Int) = q at *
        replace hq := Lib.hid hq
        unfold Du.val at hv
        by_cases b1 : 48 ≤ q <;> by_cases b2 : q ≤ 57 <;> by_cases b3 : 65 ≤ q <;> by_cases b4 : q ≤ 70
        all_goals first
          | (exfalso; omega)
          | (simp only [b1, b2, b3, b4, and_self, and_true, and_false, true_and, false_and, if_true, if_false] at hv
             first
             | (cases hv; done)
             | (have hv := Option.some.inj hv
                have hq2 := hq.out
                go_wp2
                first
                | exact ⟨⟨j + 1, a * 16 % 4294967296 + v, by omega, by go_num, rfl, by omega, by omega, fun c8 => by
                    have := hX3.out c8
                    rw [show a * 16 % 4294967296 + v = a * 16 + v by omega]
                    exact hX2.out c8, trivial⟩, by simp [intOf]; omega⟩
                | exact ⟨⟨j + 1, a * 16 % 4294967296 + (q - 65) + 10, by omega, by go_num, rfl, by omega, by omega, fun c8 => by
                    have := hX3.out c8
                    rw [show a * 16 % 4294967296 + (q - 65) + 10 = a * 16 + v by omega]
                    exact hX2.out c8, trivial⟩, by simp [intOf]; omega⟩))
    · obtain rfl : j = s.size := by omega
      have d2 : ¬ (s.size : Int) < s.size := by omega
      by_cases c8 : s.size = 8
      · have c9 : ((s.size : Int) == 8) = true := by simp; omega
        have c10 : ((s.size : Int) != 8) = false := by simp; omega
        have hX := (hX c8).2
        rw [List.drop_of_length_le (by rw [L.bs_len]; omega), Du.nums_nil] at hX
        subst hX
        go_wp2
        go_ret2
        exact ⟨rfl, rfl⟩
      · have c9 : ((s.size : Int) == 8) = false := by simp; omega
        have c10 : ((s.size : Int) != 8) = true := by simp; omega
        have hRx := hRn.out c8
        subst hRx
        go_wp2
        go_ret2
        exact ⟨rfl, rfl⟩
end Go.Proofs.Ytpfejjkoemnmiaa
