/-
  Joined: Lo1, Lo2.
-/
import Derived.StillTailTactics
import Derived.Test.YtpfgmfiegnkocaaM09
import Derived.Test.YtpfgmfiegnkocaaMem2
/-
  The contracts of isBase and Image of package load, and of the document's Image.
-/
namespace Go.Proofs.Ytpfgmfiegnkocaa
open Go.RowKit
set_option linter.unusedVariables false
set_option linter.unusedSimpArgs false
set_option maxRecDepth 100000
set_option maxRecDepth 100000
section
variable {P : Program} {ops : Array Oper} {rest : List Oper} {o : Oper} {a : Act} {Q : Exit → Act → World → Prop} {w : World}
/-- copy of a slice of numbers over the whole of a row of the call's own -/
theorem Lo.copy_rows {e t u : TypeId} {k : IntKind} (hu : P.underlying t = some (.slice e)) (hs1 : (P.info? e).map (·.size) = some 1) (hgd : o.guard = none) (d x : Operand)
    (ho : o.op = .call { callee := .builtin .copy, args := #[d, x], argTypes := #[t, u] }) (base g n cap c : Nat) (A : Option Addr) (xs ys : List Int) (hd : a.eval d = .slice (some ⟨g, 0, none⟩) n cap) (hx : a.eval x = .slice A n c)
    {e' : TypeId} (hO : Ow e' k base g n cap xs w) (hY : Rg k w A n c ys)
    (h : ∀ w', Ow e' k base g n cap ys w' → Below g w w' → wpList P ops Q rest (a.put o.dst (.int .i64 n)) w') : wpList P ops Q (o :: rest) a w := by
  obtain ⟨h1, h2, h3, h4, cur, h5, h6, h7⟩ := hO.has
  have hl := hY.len
  refine copy_has hgd d x t u ho e hu hs1 _ _ n cap n c hd hx g 0 cur e' h5 (ys.map (Value.int k)) ?_ ?_ ?_ ?_ ?_
  · rw [List.length_map, hl]; exact (Nat.min_self n).symm
  · intro hp
    rw [List.length_map, hl] at hp
    refine ⟨rfl, ?_⟩
    cases A with
    | none => have := hY.nil rfl; have := hY.le; omega
    | some ad =>
      refine ⟨ad, rfl, fun j v hj => ?_⟩
      rw [List.getElem?_map, Option.map_eq_some_iff] at hj
      obtain ⟨y, hy, rfl⟩ := hj
      exact hY.cel ad rfl j y hy
  · rw [List.length_map, hl]; omega
  · intro v hv
    obtain ⟨y, _, rfl⟩ := List.mem_map.1 hv
    rfl
  · rw [List.length_map, hl]
    refine h _ (Ow.mk' h1 h2 h3 hl _ (h5.row _) ?_ ?_) ⟨rfl, rfl, rfl, by simp [World.setRow], fun q hq => setRow_other w g q _ (by omega)⟩
    · simp only [List.take_zero, List.nil_append, List.size_toArray, List.length_append, List.length_map, List.length_drop, Array.length_toList]
      omega
    · simp only [List.take_zero, List.nil_append]
      rw [List.take_append_of_le_length (by rw [List.length_map]; omega), List.take_of_length_le (by rw [List.length_map]; omega)]
end
theorem Lo.isBase_any (b : Int) (w : World) :
    Calls Try.prog 27 #[.int .i64 b] w fun e w' => e = .returned (.bool (decide (Lo.base b))) ∧ w = w' := by
  by_cases c1 : 0 ≤ b
  · by_cases c2 : b ≤ 16384
    · have e1 : decide (Lo.base b) = (b % 4 == 0) := by
        by_cases c3 : b % 4 = 0
        · rw [decide_eq_true ⟨c1, c2, c3⟩]; simp [c3]
        · rw [decide_eq_false fun q : Lo.base b => c3 q.2.2]; simp [c3]
      rw [e1]
      go_enter Try.func27, Try.ntmps27
      go_wp2
      go_ret
      exact ⟨rfl, rfl⟩
    · have e1 : decide (Lo.base b) = false := decide_eq_false fun q => c2 q.2.1
      rw [e1]
      go_enter Try.func27, Try.ntmps27
      go_wp2
      go_ret
      exact ⟨rfl, rfl⟩
  · have e1 : decide (Lo.base b) = false := decide_eq_false fun q => c1 q.1
    rw [e1]
    go_enter Try.func27, Try.ntmps27
    go_wp2
    go_ret
    exact ⟨rfl, rfl⟩
/-- what an object that may be is -/
structure Lo.Ok (W S : List Int) : Prop where
  hn : W.length ≤ 1024
  hr : ∀ x ∈ W, 0 ≤ x ∧ x < 4294967296
  hR : Ch.Rises W.length S
theorem Lo.may_ok {W S : List Int} {Y : List Ob.Y} (hr : ∀ x ∈ W, 0 ≤ x ∧ x < 4294967296) (h : Ob.may W S Y = 0) : Lo.Ok W S := by
  unfold Ob.may at h
  split at h
  · cases h
  rename_i h1
  split at h
  · rename_i h2
    exact ⟨by omega, hr, h2⟩
  · cases h
/-- the next site's word is as it was; with it changed, the sites are one more -/
theorem Lo.Ok.at {W S : List Int} (h : Lo.Ok W S) (b : Int) {k s : Nat} (hk : k < S.length) (hs : S.getD k 0 = (s : Int)) (hn : s < W.length) :
    (Lo.img (S.take k) b 0 W).getD s 0 = W.getD s 0 ∧ (Lo.img (S.take k) b 0 W).set s ((W.getD s 0 + b) % 4294967296) = Lo.img (S.take (k + 1)) b 0 W := by
  have hp := ((Ob.rises_iff _ _).1 h.hR).2
  have hf := Lo.fresh hp hk
  rw [hs] at hf
  have hx : W[s]? = some (W.getD s 0) := by rw [List.getD_eq_getElem?_getD, List.getElem?_eq_getElem hn]; rfl
  refine ⟨?_, ?_⟩
  · rw [List.getD_eq_getElem?_getD, Lo.img_old hf hx]; rfl
  · rw [Lo.img_site hf hx]
    have e : S.take (k + 1) = S.take k ++ [(s : Int)] := by
      rw [List.take_add_one]
      rw [List.getD_eq_getElem?_getD, List.getElem?_eq_getElem hk] at hs
      simp only [Option.getD_some] at hs
      rw [List.getElem?_eq_getElem hk, hs]; rfl
    rw [e]
theorem Lo.wrap_sum (x b : Int) : (x + b % 4294967296) % 4294967296 = (x + b) % 4294967296 := by omega
set_option maxHeartbeats 2000000 in
set_option maxRecDepth 100000 in
theorem Lo.image_any {w : World} {A B C : Option Addr} {n c m d k e : Nat} {ws ss : List Int} {ys : List Ob.Y} (hW : Wo w A n c ws) (hS : In w B m d ss) (hY : Sy w C k e ys) (hsz : ∀ y ∈ ys, y.1.size ≤ 1000000) (b : Int) :
    Calls Try.prog 8 #[.agg #[.slice A n c, .slice B m d, .slice C k e], .int .i64 b] w fun r w' => ∃ A' n' c', r = .returned (.tuple #[.slice A' n' c', .int .i64 (Lo.iE ws ss ys b)]) ∧ On 39 .u32 w.heap.size A' n' c' (Lo.iW ws ss ys b) w' ∧ Below w.heap.size w w' := by
  have hO := Has.new #[.slice A n c, .slice B m d, .slice C k e] 26 w
  have hB := ((Kept.refl w).alloc #[.slice A n c, .slice B m d, .slice C k e] 26).below
  have hlw := hW.len
  have hls := hS.len
  have hlc := hS.le
  have hmx := hS.max
  unfold maxLen at hmx
  have hm1 : (m : Int) ≤ 9223372036854775807 := by omega
  have hwr := hW.rng
  have hS1 : w.heap.size ≤ (w.alloc (.cells #[.slice A n c, .slice B m d, .slice C k e] 26)).heap.size := hB.size
  have hBs : m = 0 ∨ ∃ b off, B = some ⟨b, off, none⟩ := (Nat.eq_zero_or_pos m).imp_right hS.place
  have hS0 := Lib.hid hS
  replace hW := Lib.hid (hW.below hB)
  replace hS := Lib.hid (hS.below hB)
  replace hY := Lib.hid (hY.below hB)
  replace hB := Lib.hid hB
  have CM := Lib.hid (fun (v : World) (h1 : Wo v A n c ws) (h2 : In v B m d ss) (h3 : Sy v C k e ys) => Ob.may_any h1 h2 h3 hsz)
  by_cases cm : Ob.may ws ss ys = 0
  case neg =>
    obtain ⟨e1, e2⟩ := Lo.not_E (b := b) cm
    rw [e1, e2]
    generalize Ob.may ws ss ys = z at *
    have z1 : (z == 0) = false := by simpa using cm
    have z2 : (z != 0) = true := by simpa using cm
    replace hO := Lib.hid hO
    clear hwr hls hlc hmx hm1
    go_enter Try.func8, Try.ntmps8
    go_wp2_with (first
      | (with_reducible refine load_has (o := ⟨some 10, _, _, _, _, _⟩) rfl 26 (.tmp 2) rfl w.heap.size rfl hO.out Try.underlying26 rfl (Ob.info26 _ _ _) ?_)
      | fail)
    generalize w.alloc (.cells #[.slice A n c, .slice B m d, .slice C k e] 26) = w1 at *
    refine (CM.out _ hW.out hS.out hY.out).mono ?_; rintro r w2 ⟨rfl, hE⟩
    replace hB := Lib.hid (hB.out.trans (hE.mono hS1))
    clear hE CM hW hS hY hO
    go_wp2
    go_ret2
    exact ⟨none, 0, 0, rfl, On.none _ _ _ _, hB.out⟩
  rw [cm] at CM
  have CB := Lib.hid (Lo.isBase_any b)
  by_cases cb : Lo.base b
  case neg =>
    obtain ⟨e1, e2⟩ := Lo.bad_E cm cb
    rw [e1, e2]
    rw [decide_eq_false cb] at CB
    replace hO := Lib.hid hO
    clear hwr hls hlc hmx hm1
    go_enter Try.func8, Try.ntmps8
    go_wp2_with (first
      | (with_reducible refine load_has (o := ⟨some 10, _, _, _, _, _⟩) rfl 26 (.tmp 2) rfl w.heap.size rfl hO.out Try.underlying26 rfl (Ob.info26 _ _ _) ?_)
      | fail)
    generalize w.alloc (.cells #[.slice A n c, .slice B m d, .slice C k e] 26) = w1 at *
    refine (CM.out _ hW.out hS.out hY.out).mono ?_; rintro r w2 ⟨rfl, hE⟩
    replace hB := Lib.hid (hB.out.trans (hE.mono hS1))
    clear hE CM hW hS hY hO
    go_wp2_with (fail)
    refine (CB.out _).mono ?_; rintro r w3 ⟨rfl, rfl⟩
    go_wp2
    go_ret2
    exact ⟨none, 0, 0, rfl, On.none _ _ _ _, hB.out⟩
  rw [Lo.ok_E cm cb, Lo.ok_W cm cb]
  rw [decide_eq_true cb] at CB
  have hK := Lo.may_ok hwr cm
  have hn := hK.hn
  rw [hlw] at hn
  obtain ⟨b0, b1, b2⟩ := cb
  replace hK := Lib.hid hK
  replace hO := Lib.hid hO
  clear hwr cm
  go_enter Try.func8, Try.ntmps8
  go_wp2_with (first
    | (with_reducible refine load_has (o := ⟨some 10, _, _, _, _, _⟩) rfl 26 (.tmp 2) rfl w.heap.size rfl hO.out Try.underlying26 rfl (Ob.info26 _ _ _) ?_)
    | fail)
  generalize w.alloc (.cells #[.slice A n c, .slice B m d, .slice C k e] 26) = w1 at *
  refine (CM.out _ hW.out hS.out hY.out).mono ?_; rintro r w2 ⟨rfl, hE⟩
  replace hB := Lib.hid (hB.out.trans (hE.mono hS1))
  have hS2 : w.heap.size ≤ w2.heap.size := Nat.le_trans hS1 hE.size
  replace hO := hO.out.below hE
  replace hW := Lib.hid (hW.out.below hE)
  replace hS := Lib.hid (hS.out.below hE)
  clear hE CM hY
  have o0 := hO.cell 0 (.slice A n c) rfl
  replace hO := Lib.hid hO
  go_wp2_with (fail)
  refine (CB.out _).mono ?_; rintro r w3 ⟨rfl, rfl⟩
  clear CB
  have hn0 : (n : Int) ≤ 1024 := by omega
  go_upto_region 7 with (with_reducible refine make_rows rfl (.tmp 20) (.tmp 20) 22 rfl 39 Try.underlying22 L.info32 n n _ _ rfl rfl rfl rfl (Nat.le_refl _) (by omega) (by unfold maxLen; omega) ?_)
  have hR := Lib.hid (Ow.full 39 .u32 w2 n (by unfold maxLen; omega))
  have hE := ((Kept.refl w2).alloc (madeCells #[.int .u32 0] n) 39).below
  clear o0
  have o0 := (hO.out.below hE).cell 0 (.slice A n c) rfl
  have hW4 := Lib.hid (hW.out.below hE)
  replace hE := Lib.hid hE
  generalize w2.alloc (.cells (madeCells #[.int .u32 0] n) 39) = w4 at *
  go_upto_region 8 with (with_reducible refine Lo.copy_rows Try.underlying22 (by kernel_rfl) rfl (.tmp 22) (.tmp 24) rfl w2.heap.size w2.heap.size n n c A _ ws rfl rfl hR.out hW4.out.rg ?_; intro w5 hO5 hE5)
  clear o0 hR hW4 hW
  have hE25 := hE.out.trans hE5
  replace hO := Lib.hid (hO.out.below hE25)
  replace hB := Lib.hid (hB.out.trans (hE25.mono hS2))
  have hR := Lib.hid (hO5.lower hS2)
  have o1 := hO.out.cell 1 (.slice B m d) rfl
  clear hE hE5 hO5 hE25
  generalize w2.heap.size = g at *
  go_wp2
  clear o1
  have hR0 := Lib.hid (show Ow 39 .u32 w.heap.size g n n (Lo.img (ss.take 0) b 0 ws) w5 by rw [List.take_zero, Lo.img_nil]; exact hR.out)
  go_loopw [9, 29] (fun _ i wr => ∃ j : Nat, j ≤ m ∧ i = .int .i64 j ∧ Ow 39 .u32 w.heap.size g n n (Lo.img (ss.take j) b 0 ws) wr ∧ Below w.heap.size w wr) (fun _ i _ => m - (intOf i).toNat)
  case atStart => exact ⟨0, Nat.zero_le _, rfl, hR0.out, hB.out⟩
  case round =>
    clear hR hR0 hB hO
    obtain ⟨j, hj, rfl, hR, hB⟩ := hrel
    by_cases d1 : j < m
    · have d2 : (j : Int) < m := by omega
      obtain ⟨s, hs1, hs2, hs3⟩ := Ch.site_nat hK.out.hR j (by omega)
      rcases hBs with h0 | ⟨b', off', rfl⟩
      · omega
      obtain ⟨p1, p2⟩ := hK.out.at b (k := j) (by omega) hs1 hs2
      rw [hlw] at hs2
      have g1 := (hS0.out.below hB).at j d1
      rw [hs1] at g1
      have g2 := hR.at s hs2
      rw [p1] at g2
      have f1 := hR.free s
      have hR2 := Lib.hid (hR.set s ((ws.getD s 0 + b) % 4294967296))
      have hB2 := Lib.hid (hB.setCell (p := ⟨g, s, none⟩) hS2 (.int .u32 ((ws.getD s 0 + b) % 4294967296)))
      rw [p2] at hR2
      have hsn : (s : Int) < n := by omega
      have hx : 0 ≤ ws.getD s 0 ∧ ws.getD s 0 < 4294967296 := by rw [List.getD_eq_getElem?_getD, List.getElem?_eq_getElem (by omega)]; exact hK.out.hr _ (List.getElem_mem _)
      clear hs1 p1 p2 hR hB
      generalize ws.getD s 0 = x at *
      obtain ⟨x0, x1⟩ := hx
      go_wp2
      go_roundw
      case rel => exact ⟨j + 1, by omega, by go_num, hR2.out, hB2.out⟩
      case measure => simp [intOf]; omega
    · have d2 : ¬ (j : Int) < m := by omega
      obtain rfl : j = m := by omega
      rw [List.take_of_length_le (by omega)] at hR
      replace hR := Lib.hid hR
      replace hB := Lib.hid hB
      go_wp2
      go_ret2
      exact ⟨some ⟨g, 0, none⟩, n, n, rfl, hR.out.on, hB.out⟩
end Go.Proofs.Ytpfgmfiegnkocaa
/-
  The contract of the document's Image.
-/
namespace Go.Proofs.Ytpfgmfiegnkocaa
open Go.RowKit
set_option linter.unusedVariables false
set_option linter.unusedSimpArgs false
set_option maxRecDepth 100000
set_option maxHeartbeats 2000000 in
set_option maxRecDepth 100000 in
theorem Lo.rimage_any {w : World} {A B C : Option Addr} {n c m d k e : Nat} {ws ss : List Int} {ys : List Ob.Y} (hW : Wo w A n c ws) (hS : In w B m d ss) (hY : Sy w C k e ys) (hsz : ∀ y ∈ ys, y.1.size ≤ 1000000) (b : Int) :
    Calls Try.prog 10 #[.agg #[.slice A n c, .slice B m d, .slice C k e], .int .i64 b] w fun r w' => ∃ A' n' c', r = .returned (.tuple #[.slice A' n' c', .int .i64 (Lo.iE ws ss ys b)]) ∧ On 39 .u32 w.heap.size A' n' c' (Lo.iW ws ss ys b) w' ∧ Below w.heap.size w w' := by
  have hO := Has.new #[.slice A n c, .slice B m d, .slice C k e] 26 w
  have hB := ((Kept.refl w).alloc #[.slice A n c, .slice B m d, .slice C k e] 26).below
  have hlw := hW.len
  have hls := hS.len
  have hlc := hS.le
  have hmx := hS.max
  unfold maxLen at hmx
  have hm1 : (m : Int) ≤ 9223372036854775807 := by omega
  have hwr := hW.rng
  have hS1 : w.heap.size ≤ (w.alloc (.cells #[.slice A n c, .slice B m d, .slice C k e] 26)).heap.size := hB.size
  have hBs : m = 0 ∨ ∃ b off, B = some ⟨b, off, none⟩ := (Nat.eq_zero_or_pos m).imp_right hS.place
  have hS0 := Lib.hid hS
  replace hW := Lib.hid (hW.below hB)
  replace hS := Lib.hid (hS.below hB)
  replace hY := Lib.hid (hY.below hB)
  replace hB := Lib.hid hB
  have CM := Lib.hid (fun (v : World) (h1 : Wo v A n c ws) (h2 : In v B m d ss) (h3 : Sy v C k e ys) => Ob.rmay_any h1 h2 h3 hsz)
  by_cases cm : Ob.may ws ss ys = 0
  case neg =>
    obtain ⟨e1, e2⟩ := Lo.not_E (b := b) cm
    rw [e1, e2]
    generalize Ob.may ws ss ys = z at *
    have z1 : (z == 0) = false := by simpa using cm
    have z2 : (z != 0) = true := by simpa using cm
    replace hO := Lib.hid hO
    clear hwr hls hlc hmx hm1
    go_enter Try.func10, Try.ntmps10
    go_wp2_with (first
      | (with_reducible refine load_has (o := ⟨some 9, _, _, _, _, _⟩) rfl 26 (.tmp 2) rfl w.heap.size rfl hO.out Try.underlying26 rfl (Ob.info26 _ _ _) ?_)
      | fail)
    generalize w.alloc (.cells #[.slice A n c, .slice B m d, .slice C k e] 26) = w1 at *
    refine (CM.out _ hW.out hS.out hY.out).mono ?_; rintro r w2 ⟨rfl, hE⟩
    replace hB := Lib.hid (hB.out.trans (hE.mono hS1))
    clear hE CM hW hS hY hO
    go_wp2
    go_ret2
    exact ⟨none, 0, 0, rfl, On.none _ _ _ _, hB.out⟩
  rw [cm] at CM
  by_cases cb : Lo.base b
  case neg =>
    obtain ⟨e1, e2⟩ := Lo.bad_E cm cb
    rw [e1, e2]
    replace hO := Lib.hid hO
    clear hwr hls hlc hmx hm1
    have c3 : b < 0 ∨ (¬ b < 0 ∧ 16384 < b) ∨ (¬ b < 0 ∧ b ≤ 16384 ∧ ¬ b % 4 = 0) := by
      rcases Int.lt_or_le b 0 with q | q
      · exact Or.inl q
      · rcases Int.lt_or_le 16384 b with q2 | q2
        · exact Or.inr (Or.inl ⟨by omega, q2⟩)
        · exact Or.inr (Or.inr ⟨by omega, q2, fun q3 => cb ⟨q, q2, q3⟩⟩)
    clear cb
    go_enter Try.func10, Try.ntmps10
    go_wp2_with (first
      | (with_reducible refine load_has (o := ⟨some 9, _, _, _, _, _⟩) rfl 26 (.tmp 2) rfl w.heap.size rfl hO.out Try.underlying26 rfl (Ob.info26 _ _ _) ?_)
      | fail)
    generalize w.alloc (.cells #[.slice A n c, .slice B m d, .slice C k e] 26) = w1 at *
    refine (CM.out _ hW.out hS.out hY.out).mono ?_; rintro r w2 ⟨rfl, hE⟩
    replace hB := Lib.hid (hB.out.trans (hE.mono hS1))
    clear hE CM hW hS hY hO
    rcases c3 with c3 | ⟨c3, c4⟩ | ⟨c3, c4, c5⟩
    · go_wp2
      go_ret2
      exact ⟨none, 0, 0, rfl, On.none _ _ _ _, hB.out⟩
    · go_wp2
      go_ret2
      exact ⟨none, 0, 0, rfl, On.none _ _ _ _, hB.out⟩
    · have c6 : (b % 4 == 0) = false := by simpa using c5
      have c7 : (b % 4 != 0) = true := by simpa using c5
      go_wp2
      go_ret2
      exact ⟨none, 0, 0, rfl, On.none _ _ _ _, hB.out⟩
  rw [Lo.ok_E cm cb, Lo.ok_W cm cb]
  have hK := Lo.may_ok hwr cm
  have hn := hK.hn
  rw [hlw] at hn
  obtain ⟨b0, b1, b2⟩ := cb
  replace hK := Lib.hid hK
  replace hO := Lib.hid hO
  clear hwr cm
  go_enter Try.func10, Try.ntmps10
  go_wp2_with (first
    | (with_reducible refine load_has (o := ⟨some 9, _, _, _, _, _⟩) rfl 26 (.tmp 2) rfl w.heap.size rfl hO.out Try.underlying26 rfl (Ob.info26 _ _ _) ?_)
    | fail)
  generalize w.alloc (.cells #[.slice A n c, .slice B m d, .slice C k e] 26) = w1 at *
  refine (CM.out _ hW.out hS.out hY.out).mono ?_; rintro r w2 ⟨rfl, hE⟩
  replace hB := Lib.hid (hB.out.trans (hE.mono hS1))
  have hS2 : w.heap.size ≤ w2.heap.size := Nat.le_trans hS1 hE.size
  replace hO := hO.out.below hE
  replace hW := Lib.hid (hW.out.below hE)
  replace hS := Lib.hid (hS.out.below hE)
  clear hE CM hY
  have o0 := hO.cell 0 (.slice A n c) rfl
  have o1 := hO.cell 1 (.slice B m d) rfl
  have hn0 : (n : Int) ≤ 1024 := by omega
  have b3 : ¬ b < 0 := by omega
  have b4 : ¬ 16384 < b := by omega
  have b5 : (b % 4 == 0) = true := by simpa using b2
  have b6 : (b % 4 != 0) = false := by simpa using b2
  have hR := Lib.hid (Ow.new 39 .u32 w2 w2.heap.size (Nat.le_refl _))
  have hE := ((Kept.refl w2).alloc #[] 39).below
  have hW4 := Lib.hid (hW.out.below hE)
  have hs2 : w2.heap.size ≤ (w2.alloc (.cells #[] 39)).heap.size := hE.size
  have o0' := (hO.below hE).cell 0 (.slice A n c) rfl
  replace hO := Lib.hid hO
  replace hE := Lib.hid hE
  go_upto_region 7 with (with_reducible refine append_row (o := ⟨some 28, _, _, _, _, _⟩) Try.underlying22 L.info32 (by omega) rfl (.tmp 25) (.tmp 27) rfl w2.heap.size w2.heap.size 0 0 [] rfl hR.out A n c ws rfl hW4.out (by omega) hs2 ?_; intro g cap w5 hO5 hG5)
  rw [List.nil_append, Nat.zero_add] at hO5
  clear o0 o0' o1 hW4 hW
  have hE25 := hE.out.grown hG5 hs2 (fun q e => by cases e; exact Nat.le_refl _)
  replace hO := Lib.hid (hO.out.below hE25)
  replace hB := Lib.hid (hB.out.trans (hE25.mono hS2))
  have hgb : w.heap.size ≤ g := Nat.le_trans hS2 hO5.has.1
  have hR := Lib.hid (hO5.lower hS2)
  have hOb := hO.out.lt
  have hne : w.heap.size ≠ g := (hO5.on.ne hO.out (by decide) g rfl).symm
  clear hE hG5 hO5 hE25 hs2
  try simp only [Nat.zero_add]
  have hR0 := Lib.hid (show Ow 39 .u32 w.heap.size g n cap (Lo.img (ss.take 0) b 0 ws) w5 by rw [List.take_zero, Lo.img_nil]; exact hR.out)
  go_wp2
  go_loopw [8] (fun i wr => ∃ j : Nat, j ≤ m ∧ i = .int .i64 j ∧ Ow 39 .u32 w.heap.size g n cap (Lo.img (ss.take j) b 0 ws) wr ∧ Has w.heap.size #[.slice A n c, .slice B m d, .slice C k e] 26 wr ∧ Below w.heap.size w wr) (fun i _ => m - (intOf i).toNat)
  case atStart => exact ⟨0, Nat.zero_le _, rfl, hR0.out, hO.out, hB.out⟩
  case round =>
    clear hR hR0 hB hO
    obtain ⟨j, hj, rfl, hR, hO, hB⟩ := hrel
    have o1 := hO.cell 1 (.slice B m d) rfl
    by_cases d1 : j < m
    · have d2 : (j : Int) < m := by omega
      obtain ⟨s, hs1, hs2, hs3⟩ := Ch.site_nat hK.out.hR j (by omega)
      rcases hBs with h0 | ⟨b', off', rfl⟩
      · omega
      obtain ⟨p1, p2⟩ := hK.out.at b (k := j) (by omega) hs1 hs2
      rw [hlw] at hs2
      have g1 := (hS0.out.below hB).at j d1
      rw [hs1] at g1
      have g2 := hR.at s hs2
      rw [p1] at g2
      have f1 := hR.free s
      have hR2 := Lib.hid ((show Ow 39 .u32 w.heap.size g n cap (Lo.img (ss.take j) b 0 ws) wr.drew from hR).set s ((ws.getD s 0 + b) % 4294967296))
      have hB2 := Lib.hid (hB.drew.setCell (p := ⟨g, s, none⟩) hgb (.int .u32 ((ws.getD s 0 + b) % 4294967296)))
      have hO2 := Lib.hid (hO.drew.other (p := ⟨g, s, none⟩) hne (.int .u32 ((ws.getD s 0 + b) % 4294967296)))
      have g2d : wr.drew.cell? ⟨g, s, none⟩ = some (.int .u32 (ws.getD s 0)) := g2
      have f1d : wr.drew.frozen? ⟨g, s, none⟩ = false := f1
      replace g2d := Lib.hid g2d
      replace f1d := Lib.hid f1d
      rw [p2] at hR2
      have hsn : (s : Int) < n := by omega
      have hx : 0 ≤ ws.getD s 0 ∧ ws.getD s 0 < 4294967296 := by rw [List.getD_eq_getElem?_getD, List.getElem?_eq_getElem (by omega)]; exact hK.out.hr _ (List.getElem_mem _)
      have qb : IntKind.u32.wrap b = b := by rw [IntKind.wrap_u32]; omega
      have qx : IntKind.u32.wrap (ws.getD s 0 + b) = (ws.getD s 0 + b) % 4294967296 := by rw [IntKind.wrap_u32]
      clear hs1 p1 p2 hR hB hO
      generalize ws.getD s 0 = x at *
      obtain ⟨x0, x1⟩ := hx
      replace qx := Lib.hid qx
      go_wp2_with (fail)
      go_still_tail 18, (by kernel_rfl)
      change wpList _ _ _ _ _ wr.drew
      clear g1 g2 f1 o1
      have g2 := g2d.out
      have f1 := f1d.out
      clear g2d f1d
      generalize wr.drew = wd at *
      rw [qx.out]
      go_wp2
      go_roundw
      case rel => exact ⟨j + 1, by omega, by go_num, hR2.out, hO2.out, hB2.out⟩
      case measure => simp [intOf]; omega
    · have d2 : ¬ (j : Int) < m := by omega
      obtain rfl : j = m := by omega
      rw [List.take_of_length_le (by omega)] at hR
      replace hR := Lib.hid hR
      replace hB := Lib.hid hB
      replace hO := Lib.hid hO
      go_wp2
      go_ret2
      exact ⟨some ⟨g, 0, none⟩, n, cap, rfl, hR.out.on, hB.out⟩
end Go.Proofs.Ytpfgmfiegnkocaa
