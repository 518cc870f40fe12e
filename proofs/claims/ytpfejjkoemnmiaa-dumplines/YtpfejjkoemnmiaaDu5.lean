/-
  The contract of Put of package dump.
-/
import Derived.Test.YtpfejjkoemnmiaaM12
import Derived.Test.YtpfejjkoemnmiaaM14
namespace Go.Proofs.Ytpfejjkoemnmiaa
open Go.RowKit
set_option linter.unusedVariables false
set_option linter.unusedSimpArgs false
set_option maxRecDepth 100000
theorem Rg.tail {k : IntKind} {w : World} {A : Option Addr} {n c : Nat} {xs : List Int} (h : Rg k w A n c xs) (i : Nat) (hi : i ≤ n) : Rg k w (Fi.at A c i) (n - i) (c - i) (xs.drop i) := by
  unfold Fi.at
  have hl := h.len
  have hle := h.le
  refine ⟨by simp [hl], by omega, by have := h.max; omega, ?_, ?_⟩
  · split
    · intro e; have := h.nil e; omega
    · cases A with
      | none => intro _; have := h.nil rfl; omega
      | some ad => intro e; cases e
  · intro ad e j v hv
    rw [List.getElem?_drop] at hv
    split at e
    · rename_i hc
      rw [List.getElem?_eq_none (by omega)] at hv
      cases hv
    · cases A with
      | none => cases e
      | some a0 =>
        simp only [Option.map_some, Option.some.injEq] at e
        subst e
        rw [add_add]
        exact h.cel a0 rfl _ v hv
/-- the rest of a slice of ints, behind l of them -/
theorem Du.exec_tail {o : Oper} {a : Act} {w : World} (x y : Operand) (ho : o.op = .slice 23 x (some y) none none) {A : Option Addr} {n c : Nat} (hx : a.eval x = .slice A n c) {li : Int} (hy : a.eval y = .int .i64 li) {l : Nat} (hli : li = (l : Int)) (hl : l ≤ n) :
    (execOp a.eval o).run Try.prog w = .ok (.value (.slice (Fi.at A c l) (n - l) (c - l))) w := by
  have he : Try.prog.elem 23 = 3 := by simp [Program.elem, Try.underlying23]
  have ht : Try.prog.underlying 23 = some (.slice (Try.prog.elem 23)) := by rw [he]; exact Try.underlying23
  have hs : (Try.prog.info? 3).map (·.size) = some 1 := by kernel_rfl
  have hz : (sizeOf (Try.prog.elem 23)).run Try.prog w = .ok 1 w := by rw [he]; exact run_sizeOf hs w
  have hr := run_slice_l (P := Try.prog) w 23 A n c ht .i64 li (by omega) (by omega)
  rw [hz] at hr
  subst hli
  unfold execOp
  simp only [ho, hx, hy, Option.map_some, Option.map_none, Sem.run_bind, Sem.run_pure, Result.andThen_ok, run_sliceAt_slice _ _ _ _ _ _ ht, hr]
  simp [sliced, Fi.at]
/-- the sites from a word on -/
structure Du.Left (ss : List Int) (j : Nat) (l : List Int) : Prop where
  pw : l.Pairwise (· < ·)
  lo : ∀ s ∈ l, (j : Int) ≤ s
  sub : ∀ s ∈ l, s ∈ ss
  all : ∀ s ∈ ss, s < (j : Int) ∨ s ∈ l
theorem Du.Left.start {ss : List Int} (h : ss.Pairwise (· < ·)) (h0 : ∀ s ∈ ss, 0 ≤ s) : Du.Left ss 0 ss := ⟨h, fun s hs => by have := h0 s hs; omega, fun _ h => h, fun _ h => Or.inr h⟩
theorem Du.Left.nil {ss : List Int} {j : Nat} (h : Du.Left ss j []) : ¬ (j : Int) ∈ ss ∧ Du.Left ss (j + 1) [] :=
  ⟨fun q => (h.all _ q).elim (fun r => by omega) (fun r => by cases r), List.Pairwise.nil, (by intro s hs; cases hs), (by intro s hs; cases hs), fun s hs => (h.all s hs).elim (fun r => Or.inl (by omega)) (fun r => by cases r)⟩
theorem Du.Left.hit {ss l : List Int} {j : Nat} (h : Du.Left ss j ((j : Int) :: l)) : (j : Int) ∈ ss ∧ Du.Left ss (j + 1) l :=
  ⟨h.sub _ List.mem_cons_self, (List.pairwise_cons.1 h.pw).2, fun s hs => by have := (List.pairwise_cons.1 h.pw).1 s hs; omega, fun s hs => h.sub s (List.mem_cons_of_mem _ hs), fun s hs => by
    rcases h.all s hs with r | r
    · exact Or.inl (by omega)
    · rcases List.mem_cons.1 r with r | r
      · exact Or.inl (by omega)
      · exact Or.inr r⟩
theorem Du.Left.miss {ss l : List Int} {j : Nat} {s : Int} (h : Du.Left ss j (s :: l)) (hs : ¬ s = (j : Int)) : ¬ (j : Int) ∈ ss ∧ Du.Left ss (j + 1) (s :: l) := by
  have h1 := h.lo s List.mem_cons_self
  have h2 : ∀ t ∈ s :: l, s ≤ t := fun t ht => by
    rcases List.mem_cons.1 ht with r | r
    · omega
    · have := (List.pairwise_cons.1 h.pw).1 t r; omega
  refine ⟨fun q => ?_, h.pw, fun t ht => by have := h2 t ht; omega, h.sub, fun t ht => ?_⟩
  · rcases h.all _ q with r | r
    · omega
    · have := h2 _ r; omega
  · rcases h.all t ht with r | r
    · exact Or.inl (by omega)
    · exact Or.inr r
theorem Du.take_succ {xs : List Int} {j : Nat} (h : j < xs.length) : xs.take (j + 1) = xs.take j ++ [xs.getD j 0] := by
  rw [List.take_add_one, List.getElem?_eq_getElem h, List.getD_eq_getElem?_getD, List.getElem?_eq_getElem h]; rfl
theorem Du.text_one (ls : List (List Int)) (l : List Int) : Du.text (ls ++ [l]) = Du.text ls ++ l ++ [10] := by
  rw [Du.text_append, List.append_assoc]
  simp [Du.text]
/-- the text of the first words -/
theorem Du.words_step {ws ss : List Int} {j : Nat} (h : j < ws.length) : Du.text (Du.wls ss 0 (ws.take (j + 1))) = Du.text (Du.wls ss 0 (ws.take j)) ++ (Du.wl (decide ((j : Int) ∈ ss)) (ws.getD j 0) ++ [10]) := by
  rw [Du.take_succ h, Du.wls_append, ← List.append_assoc, ← Du.text_one, List.length_take, Nat.min_eq_left (by omega), Nat.zero_add]
  rfl
theorem Du.names_step {ys : List Ob.Y} {j : Nat} (h : j < ys.length) : Du.text ((ys.take (j + 1)).map Du.nl) = Du.text ((ys.take j).map Du.nl) ++ (Du.nl (Ob.nm ys j, Ob.pl ys j) ++ [10]) := by
  rw [List.take_add_one, List.getElem?_eq_getElem h, List.map_append, ← List.append_assoc, ← Du.text_one, Ob.nm_get h, Ob.pl_get h]
  rfl
theorem Du.hexS (x : Int) (h0 : 0 ≤ x) : L.bs (strOfNums (Du.hex x)) = Du.hex x ∧ (strOfNums (Du.hex x)).size = 8 := ⟨L.bs_str _ (fun c hc => by have := Du.hex_rng x c hc; omega), by rw [strOfNums_size]; rfl⟩
theorem Du.line_word {x : Int} {H : ByteArray} (hH : L.bs H = Du.hex x) : L.bs ((⟨#[119, 111, 114, 100]⟩ : ByteArray) ++ ⟨#[32]⟩ ++ H ++ ⟨#[10]⟩) = Du.wl false x ++ [10] := by
  rw [L.bs_append, L.bs_append, hH]
  rfl
theorem Du.line_addr {x : Int} {H : ByteArray} (hH : L.bs H = Du.hex x) : L.bs ((⟨#[97, 100, 100, 114]⟩ : ByteArray) ++ ⟨#[32]⟩ ++ H ++ ⟨#[10]⟩) = Du.wl true x ++ [10] := by
  rw [L.bs_append, L.bs_append, hH]
  rfl
theorem Du.line_size {s : ByteArray} {b : Bool} {x : Int} (h : L.bs s = Du.wl b x ++ [10]) : s.size = 14 := by rw [← L.bs_len, h, List.length_append, Du.wl_len]; rfl
theorem Du.nameS_bs {y : Ob.Y} {H : ByteArray} (hH : L.bs H = Du.hex y.2) : L.bs ((⟨#[110, 97, 109, 101, 32]⟩ : ByteArray) ++ y.1 ++ ⟨#[32]⟩ ++ H ++ ⟨#[10]⟩) = Du.nl y ++ [10] := by
  rw [L.bs_append, L.bs_append, L.bs_append, L.bs_append, hH]
  rfl
theorem Du.nline_size {s : ByteArray} {y : Ob.Y} (h : L.bs s = Du.nl y ++ [10]) : s.size = 15 + y.1.size := by rw [← L.bs_len, h, List.length_append, Du.nl_len, L.bs_len, List.length_singleton]; omega
theorem Du.text_byt {ls : List (List Int)} (h : ∀ l ∈ ls, L.Byt l) : L.Byt (Du.text ls) := by
  intro x hx
  obtain ⟨l, hl, hx⟩ := List.mem_flatMap.1 hx
  rcases List.mem_append.1 hx with q | q
  · exact h l hl x q
  · simp at q; omega
theorem Du.wl_byt (b : Bool) (x : Int) : L.Byt (Du.wl b x) := by
  intro c hc
  rcases List.mem_append.1 hc with q | q
  · cases b
    · simp [Du.wordH] at q; omega
    · simp [Du.addrH] at q; omega
  · have := Du.hex_rng x c q; omega
theorem Du.nl_byt (y : Ob.Y) : L.Byt (Du.nl y) := by
  intro c hc
  unfold Du.nl at hc
  rcases List.mem_append.1 hc with hc | hc
  · rcases List.mem_append.1 hc with hc | hc
    · rcases List.mem_append.1 hc with hc | hc
      · simp [Du.nameH] at hc; omega
      · exact L.bs_rng y.1 c hc
    · simp at hc; omega
  · have := Du.hex_rng y.2 c hc; omega
theorem Du.wls_byt (S : List Int) : ∀ (ws : List Int) (i : Nat), ∀ l ∈ Du.wls S i ws, L.Byt l
  | [], _, l, h => by cases h
  | x :: ws, i, l, h => by
    rcases List.mem_cons.1 h with q | q
    · rw [q]; exact Du.wl_byt _ _
    · exact Du.wls_byt S ws (i + 1) l q
theorem Du.put_byt (W S : List Int) (Y : List Ob.Y) : L.Byt (Du.put W S Y) := Du.text_byt fun l hl => by
  rcases List.mem_append.1 hl with q | q
  · exact Du.wls_byt S W 0 l q
  · obtain ⟨y, _, rfl⟩ := List.mem_map.1 q
    exact Du.nl_byt y
theorem Du.names_len {ys : List Ob.Y} (h : ∀ y ∈ ys, Fi.OkY y) (j : Nat) : (Du.text ((ys.take j).map Du.nl)).length ≤ 27 * ys.length := by
  have key : ∀ zs : List Ob.Y, (∀ y ∈ zs, Fi.OkY y) → (Du.text (zs.map Du.nl)).length ≤ 27 * zs.length := fun zs => by
    induction zs with
    | nil => intro _; exact Nat.le_refl _
    | cons y zs ih =>
      intro hz
      have h1 := (L.name_len (hz y List.mem_cons_self).1).2
      have h2 := ih (fun t ht => hz t (List.mem_cons_of_mem _ ht))
      have h3 := Du.nl_len y
      rw [List.map_cons, Du.text_cons, List.length_append, List.length_cons, List.length_cons]
      omega
  have h1 := key (ys.take j) (fun y hy => h y (List.mem_of_mem_take hy))
  have h2 : (ys.take j).length ≤ ys.length := by rw [List.length_take]; omega
  omega
theorem Du.put_no {ws ss : List Int} {ys : List Ob.Y} (h : ¬ Ob.may ws ss ys = 0) : Du.pB ws ss ys = [] := by unfold Du.pB; rw [if_neg h]
theorem Du.put_yes {ws ss : List Int} {ys : List Ob.Y} (h : Ob.may ws ss ys = 0) : Du.pB ws ss ys = Du.put ws ss ys := by unfold Du.pB; rw [if_pos h]
set_option maxHeartbeats 4000000 in
set_option maxRecDepth 100000 in
theorem Du.put_any {w : World} {A B C : Option Addr} {n c m d k e : Nat} {ws ss : List Int} {ys : List Ob.Y} (hW : Wo w A n c ws) (hS : In w B m d ss) (hY : Sy w C k e ys) (hsz : ∀ y ∈ ys, y.1.size ≤ 1000000) :
    Calls Try.prog 9 #[.agg #[.slice A n c, .slice B m d, .slice C k e]] w fun r w' => r = .returned (.tuple #[.string (strOfNums (Du.pB ws ss ys)), .int .i64 (Ob.may ws ss ys)]) ∧ Below w.heap.size w w' := by
  have hO := Has.new #[.slice A n c, .slice B m d, .slice C k e] 26 w
  have hB := ((Kept.refl w).alloc #[.slice A n c, .slice B m d, .slice C k e] 26).below
  have hlw := hW.len
  have hly := hY.len
  have hle2 := hY.le
  have hmx2 := hY.max
  unfold maxLen at hmx2
  have hwr := hW.rng
  have hS1 : w.heap.size ≤ (w.alloc (.cells #[.slice A n c, .slice B m d, .slice C k e] 26)).heap.size := hB.size
  have hYw := Lib.hid hY
  have hWw := Lib.hid hW
  have hSw := Lib.hid hS
  replace hW := Lib.hid (hW.below hB)
  replace hS := Lib.hid (hS.below hB)
  replace hY := Lib.hid (hY.below hB)
  replace hB := Lib.hid hB
  by_cases cm : Ob.may ws ss ys = 0
  case neg =>
    rw [Du.put_no cm]
    have CM := Lib.hid (fun (v : World) (h1 : Wo v A n c ws) (h2 : In v B m d ss) (h3 : Sy v C k e ys) => Ob.may_any h1 h2 h3 hsz)
    generalize Ob.may ws ss ys = z at *
    have z1 : (z == 0) = false := by simpa using cm
    have z2 : (z != 0) = true := by simpa using cm
    replace hO := Lib.hid hO
    go_enter Try.func9, Try.ntmps9
    go_wp2_with (first
      | (with_reducible refine load_has (o := ⟨some 12, _, _, _, _, _⟩) rfl 26 (.tmp 1) rfl w.heap.size rfl hO.out Try.underlying26 rfl (Ob.info26 _ _ _) ?_)
      | fail)
    generalize w.alloc (.cells #[.slice A n c, .slice B m d, .slice C k e] 26) = w1 at *
    refine (CM.out _ hW.out hS.out hY.out).mono ?_; rintro r w2 ⟨rfl, hE⟩
    replace hB := Lib.hid (hB.out.trans (hE.mono hS1))
    clear hE CM hW hS hY hO
    go_wp2
    go_ret2
    exact ⟨rfl, hB.out⟩
  rw [Du.put_yes cm]
  have hK := Fi.may_ok hwr cm
  have hR := (Ob.rises_iff _ _).1 hK.hR
  have hL0 := Lib.hid (Du.Left.start hR.2 (fun s hs => (hR.1 s hs).1))
  have hn := hK.hn
  have hk := hK.hy
  have CM := Lib.hid (fun (v : World) (h1 : Wo v A n c ws) (h2 : In v B m d ss) (h3 : Sy v C k e ys) => Ob.may_any h1 h2 h3 hsz)
  rw [cm] at CM ⊢
  rw [hlw] at hn
  rw [hly] at hk
  replace hwr := Lib.hid hwr
  replace hK := Lib.hid hK
  replace hO := Lib.hid hO
  replace hsz := Lib.hid hsz
  clear hR
  go_enter Try.func9, Try.ntmps9
  go_wp2_with (first
    | (with_reducible refine load_has (o := ⟨some 12, _, _, _, _, _⟩) rfl 26 (.tmp 1) rfl w.heap.size rfl hO.out Try.underlying26 rfl (Ob.info26 _ _ _) ?_)
    | fail)
  generalize w.alloc (.cells #[.slice A n c, .slice B m d, .slice C k e] 26) = w1 at *
  refine (CM.out _ hW.out hS.out hY.out).mono ?_; rintro r w2 ⟨rfl, hE⟩
  have hB2 := hB.out.trans (hE.mono hS1)
  have hS2 : w.heap.size ≤ w2.heap.size := Nat.le_trans hS1 hE.size
  have hA := ((Kept.refl w2).alloc #[.pointer none, .slice none 0 0] 57).below
  have hBl := Lib.hid ((Du.Bld.new w2).lower hS2)
  have hO2 := (hO.out.below hE).below hA
  have o0 := hO2.cell 0 (.slice A n c) rfl
  have o1 := hO2.cell 1 (.slice B m d) rfl
  replace hO := Lib.hid hO2
  replace hB := Lib.hid (hB2.trans (hA.mono hB2.size))
  have hb2 : w.heap.size ≤ w2.heap.size := hS2
  clear hE CM hW hS hY hA hB2 hO2
  go_wp2_with (fail)
  clear o0 o1
  generalize hwA : w2.alloc (.cells #[.pointer none, .slice none 0 0] 57) = w3 at *
  generalize w2.heap.size = b at *
  clear hwA hS1
  go_loopw [6, 22] (fun lf i wr => ∃ (j m' d' : Nat) (L : Option Addr) (l : List Int), j ≤ n ∧ i = .int .i64 j ∧ lf = .slice L m' d' ∧ In w L m' d' l ∧ Du.Left ss j l ∧ Du.Bld w.heap.size b (Du.text (Du.wls ss 0 (ws.take j))) wr ∧ Below w.heap.size w wr ∧ Has w.heap.size #[.slice A n c, .slice B m d, .slice C k e] 26 wr) (fun _ i _ => n - (intOf i).toNat)
  case atStart => exact ⟨0, m, d, B, ss, Nat.zero_le _, rfl, rfl, hSw.out, hL0.out, hBl.out, hB.out, hO.out⟩
  case round =>
    clear hBl hB hO hL0
    obtain ⟨j, m', d', Lq, l, hj, rfl, rfl, hI, hLf, hBl, hB, hO⟩ := hrel
    by_cases d1 : j < n
    · have d2 : (j : Int) < n := by omega
      obtain ⟨bA, oA, rfl⟩ := hWw.out.place (by omega)
      have hjx : ws[j]? = some (ws.getD j 0) := by rw [List.getD_eq_getElem?_getD, List.getElem?_eq_getElem (by omega)]; rfl
      have g0 := (hWw.out.below hB).cellAt j _ hjx
      have hxr := hwr.out _ (List.mem_of_getElem? hjx)
      have hst := Lib.hid (Du.words_step (ws := ws) (ss := ss) (j := j) (by omega))
      have htl := Du.wls_len (S := ss) (ws.take j) 0
      rw [List.length_take, Nat.min_eq_left (by omega)] at htl
      generalize ws.getD j 0 = x at *
      generalize Du.text (Du.wls ss 0 (ws.take j)) = T at *
      have x0 := hxr.1
      have x1 := hxr.2
      have hSr : w.heap.size ≤ wr.heap.size := hB.size
      have hlI := hI.len
      replace hBl := Lib.hid hBl
      replace hO := Lib.hid hO
      clear hxr hjx
      cases l with
      | nil =>
        obtain ⟨hno, hLn⟩ := hLf.nil
        rw [decide_eq_false hno] at hst
        have hm0 : m' = 0 := by rw [← hlI]; rfl
        subst hm0
        replace hI := Lib.hid hI
        replace hLn := Lib.hid hLn
        replace hB := Lib.hid hB
        clear hLf hno
        go_wp2_with (fail)
        clear g0
        refine (Du.hex_any x0 x1 _).mono ?_; rintro r w4 ⟨rfl, hE⟩
        obtain ⟨hH1, hH2⟩ := Du.hexS x x0
        have hB4 := Lib.hid (hB.out.trans (hE.mono hSr))
        have hBl4 := Lib.hid (hBl.out.below hE)
        have hO4 := Lib.hid (hO.out.below hE)
        have hS4 := hB4.out.size
        have hls0 := (Du.line_word hH1)
        have hsz14 := Du.line_size hls0
        have hls := Lib.hid hls0
        clear hls0
        generalize strOfNums (Du.hex x) = H at *
        clear hE hB hBl hO hH1
        have hc1 : ¬ 9223372036854775807 < 5 + H.size := by omega
        have hc2 : ¬ 9223372036854775807 < 5 + H.size + 1 := by omega
        go_wp2_with (fail)
        have hlen14 : T.length + ((⟨#[119, 111, 114, 100]⟩ : ByteArray) ++ ⟨#[32]⟩ ++ H ++ ⟨#[10]⟩).size ≤ 1000000000 := by rw [hsz14, htl]; omega
        have hpos14 : 0 < ((⟨#[119, 111, 114, 100]⟩ : ByteArray) ++ ⟨#[32]⟩ ++ H ++ ⟨#[10]⟩).size := by rw [hsz14]; omega
        refine (Du.write_any hBl4.out _ hlen14 hpos14 hS4).mono ?_; rintro r w5 ⟨rfl, hBl5, hE, hSp⟩
        clear hlen14 hpos14 hsz14 hc1 hc2 hH2
        rw [hls.out, ← hst.out] at hBl5
        have hB5 := Lib.hid (hB4.out.trans hE)
        have hO5 := Lib.hid (hSp _ _ _ (by decide) (by decide) hO4.out)
        replace hBl5 := Lib.hid hBl5
        clear hE hSp hBl4 hB4 hO4
        go_wp2
        exact ⟨⟨j + 1, 0, d', Lq, [], by omega, by go_num, rfl, hI.out, hLn.out, hBl5.out, hB5.out, hO5.out⟩, by simp [intOf]; omega⟩
      | cons s l =>
        have hm1 : m' = l.length + 1 := by rw [← hlI]; rfl
        subst hm1
        have hm2 : (0 : Int) < (l.length : Int) + 1 := by omega
        obtain ⟨bL, oL, rfl⟩ := hI.place (by omega)
        have g1 := (hI.below hB).cellAt 0 s rfl
        rw [Nat.add_zero] at g1
        replace hB := Lib.hid hB
        by_cases cs : s = (j : Int)
        · subst cs
          obtain ⟨hyes, hLn⟩ := hLf.hit
          rw [decide_eq_true hyes] at hst
          have hIn := Lib.hid (hI.tail 1 (by omega))
          rw [List.drop_succ_cons, List.drop_zero] at hIn
          replace hLn := Lib.hid hLn
          clear hLf hyes hI
          go_wp2_with (fail)
          replace hBl := Lib.hid (show Du.Bld w.heap.size b T wr.drew from hBl.out)
          replace hO := Lib.hid hO.out.drew
          replace hB := Lib.hid hB.out.drew
          replace hSr : w.heap.size ≤ wr.drew.heap.size := hSr
          refine wp_region_held_drew (S := fun w' => w' = wr.drew) (by kernel_rfl) ?_ (fun hHeld => ?_)
          · rfl
          refine wpAnyH_take (i := 0) (oi := { dst := some 37, op := Op.move (Operand.tmp 6), type := 23, pos := "dump.go:78", after := #[], guard := none }) (v := ?_) rfl (by kernel_rfl) (by kernel_rfl) (by kernel_rfl) (fun _ _ _ h => h) (Or.inl ⟨rfl, ?_⟩) hHeld ?_
          rotate_left
          · (intro wz hSw; (try dsimp only at hSw); go_simp; try with_reducible rfl)
          try simp only [Act.put, List.setIfInBounds_toArray, List.set_cons_zero, List.set_cons_succ]
          refine wpAnyH_take (i := 1) (oi := { dst := some 38, op := Op.slice 23 (Operand.tmp 37) (some (Operand.const (Value.int IntKind.i64 1))) none none, type := 23, pos := "dump.go:78", after := #[{ on := 0, ground := Ground.data }], guard := none }) (v := ?_) rfl (by kernel_rfl) (by kernel_rfl) (by kernel_rfl) (fun _ _ _ h => h) (Or.inl ⟨rfl, ?_⟩) hHeld ?_
          rotate_left
          · (intro wz hSw; refine Du.exec_tail (A := some ⟨bL, oL, none⟩) (n := l.length + 1) (c := d') (li := 1) (l := 1) (.tmp 37) (.const (.int .i64 1)) ?_ ?_ ?_ ?_ ?_ <;> first | rfl | omega)
          try simp only [Act.put, List.setIfInBounds_toArray, List.set_cons_zero, List.set_cons_succ]
          refine wpAnyH_take (i := 2) (oi := { dst := some 9, op := Op.assign (Operand.const (Value.string { data := #[97, 100, 100, 114] })), type := 9, pos := "dump.go:78", after := #[{ on := 0, ground := Ground.textOnly Departure.lateStores }, { on := 1, ground := Ground.textOnly Departure.lateStoresUnsure }], guard := none }) (v := ?_) rfl (by kernel_rfl) (by kernel_rfl) (by kernel_rfl) (fun _ _ _ h => h) (Or.inl ⟨rfl, ?_⟩) hHeld ?_
          rotate_left
          · (intro wz hSw; (try dsimp only at hSw); go_simp; try with_reducible rfl)
          try simp only [Act.put, List.setIfInBounds_toArray, List.set_cons_zero, List.set_cons_succ]
          refine wpAnyH_take (i := 3) (oi := { dst := some 6, op := Op.assign (Operand.tmp 38), type := 23, pos := "dump.go:78", after := #[{ on := 1, ground := Ground.data }, { on := 2, ground := Ground.chain }, { on := 0, ground := Ground.phase }, { on := 1, ground := Ground.phase }, { on := 2, ground := Ground.phase }], guard := none }) (v := ?_) rfl (by kernel_rfl) (by kernel_rfl) (by kernel_rfl) (fun _ _ _ h => h) (Or.inl ⟨rfl, ?_⟩) hHeld ?_
          rotate_left
          · (intro wz hSw; (try dsimp only at hSw); go_simp; try with_reducible rfl)
          try simp only [Act.put, List.setIfInBounds_toArray, List.set_cons_zero, List.set_cons_succ]
          refine wpAnyH_done (by kernel_rfl) ?_ _
          clear hHeld
          revert hBl hO hB hSr
          generalize wr.drew = wq
          intro hBl hO hB hSr
          go_wp2_with (fail)
          clear g0 g1
          refine (Du.hex_any x0 x1 _).mono ?_; rintro r w4 ⟨rfl, hE⟩
          obtain ⟨hH1, hH2⟩ := Du.hexS x x0
          have hB4 := Lib.hid (hB.out.trans (hE.mono hSr))
          have hBl4 := Lib.hid (hBl.out.below hE)
          have hO4 := Lib.hid (hO.out.below hE)
          have hS4 := hB4.out.size
          have hls0 := (Du.line_addr hH1)
          have hsz14 := Du.line_size hls0
          have hls := Lib.hid hls0
          clear hls0
          generalize strOfNums (Du.hex x) = H at *
          clear hE hB hBl hO hH1
          have hc1 : ¬ 9223372036854775807 < 5 + H.size := by omega
          have hc2 : ¬ 9223372036854775807 < 5 + H.size + 1 := by omega
          go_wp2_with (fail)
          have hlen14 : T.length + ((⟨#[97, 100, 100, 114]⟩ : ByteArray) ++ ⟨#[32]⟩ ++ H ++ ⟨#[10]⟩).size ≤ 1000000000 := by rw [hsz14, htl]; omega
          have hpos14 : 0 < ((⟨#[97, 100, 100, 114]⟩ : ByteArray) ++ ⟨#[32]⟩ ++ H ++ ⟨#[10]⟩).size := by rw [hsz14]; omega
          refine (Du.write_any hBl4.out _ hlen14 hpos14 hS4).mono ?_; rintro r w5 ⟨rfl, hBl5, hE, hSp⟩
          clear hlen14 hpos14 hsz14 hc1 hc2 hH2
          rw [hls.out, ← hst.out] at hBl5
          have hB5 := Lib.hid (hB4.out.trans hE)
          have hO5 := Lib.hid (hSp _ _ _ (by decide) (by decide) hO4.out)
          replace hBl5 := Lib.hid hBl5
          clear hE hSp hBl4 hB4 hO4
          go_wp2
          exact ⟨⟨j + 1, l.length, (d' - 1), _, l, by omega, by go_num, rfl, hIn.out, hLn.out, hBl5.out, hB5.out, hO5.out⟩, by simp [intOf]; omega⟩
        · obtain ⟨hno, hLn⟩ := hLf.miss cs
          rw [decide_eq_false hno] at hst
          have z1 : (s == (j : Int)) = false := by simpa using cs
          replace hI := Lib.hid hI
          replace hLn := Lib.hid hLn
          clear hLf hno
          go_wp2_with (fail)
          clear g0 g1
          refine (Du.hex_any x0 x1 _).mono ?_; rintro r w4 ⟨rfl, hE⟩
          obtain ⟨hH1, hH2⟩ := Du.hexS x x0
          have hB4 := Lib.hid (hB.out.trans (hE.mono hSr))
          have hBl4 := Lib.hid (hBl.out.below hE)
          have hO4 := Lib.hid (hO.out.below hE)
          have hS4 := hB4.out.size
          have hls0 := (Du.line_word hH1)
          have hsz14 := Du.line_size hls0
          have hls := Lib.hid hls0
          clear hls0
          generalize strOfNums (Du.hex x) = H at *
          clear hE hB hBl hO hH1
          have hc1 : ¬ 9223372036854775807 < 5 + H.size := by omega
          have hc2 : ¬ 9223372036854775807 < 5 + H.size + 1 := by omega
          go_wp2_with (fail)
          have hlen14 : T.length + ((⟨#[119, 111, 114, 100]⟩ : ByteArray) ++ ⟨#[32]⟩ ++ H ++ ⟨#[10]⟩).size ≤ 1000000000 := by rw [hsz14, htl]; omega
          have hpos14 : 0 < ((⟨#[119, 111, 114, 100]⟩ : ByteArray) ++ ⟨#[32]⟩ ++ H ++ ⟨#[10]⟩).size := by rw [hsz14]; omega
          refine (Du.write_any hBl4.out _ hlen14 hpos14 hS4).mono ?_; rintro r w5 ⟨rfl, hBl5, hE, hSp⟩
          clear hlen14 hpos14 hsz14 hc1 hc2 hH2
          rw [hls.out, ← hst.out] at hBl5
          have hB5 := Lib.hid (hB4.out.trans hE)
          have hO5 := Lib.hid (hSp _ _ _ (by decide) (by decide) hO4.out)
          replace hBl5 := Lib.hid hBl5
          clear hE hSp hBl4 hB4 hO4
          go_wp2
          exact ⟨⟨j + 1, (l.length + 1), d', _, (s :: l), by omega, by go_num, rfl, hI.out, hLn.out, hBl5.out, hB5.out, hO5.out⟩, by simp [intOf]; omega⟩
    · have d2 : ¬ (j : Int) < n := by omega
      obtain rfl : j = n := by omega
      rw [List.take_of_length_le (by omega)] at hBl
      have hTl := Du.wls_len (S := ss) ws 0
      have hfin : Du.text (Du.wls ss 0 ws) ++ Du.text (ys.map Du.nl) = Du.put ws ss ys := Du.put_parts.symm
      replace hfin := Lib.hid hfin
      generalize Du.text (Du.wls ss 0 ws) = T at *
      have o2 := hO.cell 2 (.slice C k e) rfl
      replace hBl := Lib.hid hBl
      replace hO := Lib.hid hO
      replace hB := Lib.hid hB
      clear hI hLf
      go_wp2_with (fail)
      clear o2
      go_loopw [50] (fun i wq => ∃ j : Nat, j ≤ k ∧ i = .int .i64 j ∧ Du.Bld w.heap.size b (T ++ Du.text ((ys.take j).map Du.nl)) wq ∧ Below w.heap.size w wq) (fun i _ => k - (intOf i).toNat)
      case atStart => exact ⟨0, Nat.zero_le _, rfl, by rw [List.take_zero, List.map_nil, show Du.text [] = [] from rfl, List.append_nil]; exact hBl.out, hB.out⟩
      case round =>
        clear hBl hB hO
        obtain ⟨q, hq, rfl, hBl, hB⟩ := hrel
        by_cases d3 : q < k
        · have d4 : (q : Int) < k := by omega
          obtain ⟨bc, oc, rfl⟩ := hYw.out.place (by omega)
          have g1 := (hYw.out.below hB).name q d3
          have g2 := (hYw.out.below hB).at q d3
          have hyk := hK.out.at (k := q) (by omega)
          have hst := Lib.hid (Du.names_step (ys := ys) (j := q) (by omega))
          have htl := Du.names_len hK.out.hN q
          generalize Du.text ((ys.take q).map Du.nl) = U at *
          generalize Ob.nm ys q = s at *
          generalize Ob.pl ys q = p at *
          have hp0 : 0 ≤ p := hyk.2.1
          have hp1 : p < 4294967296 := hyk.2.2
          have hs12 : s.size ≤ 12 := by rw [← L.bs_len]; exact (L.name_len hyk.1).2
          have hSr : w.heap.size ≤ wr.heap.size := hB.size
          have hA := ((Kept.refl wr).alloc #[.string s, .int .i64 p] 54).below
          have hX := Lib.hid (Has.new #[.string s, .int .i64 p] 54 wr)
          have hS8 : w.heap.size ≤ (wr.alloc (.cells #[.string s, .int .i64 p] 54)).heap.size := Nat.le_trans hSr hA.size
          replace hB := Lib.hid (hB.trans (hA.mono hSr))
          replace hBl := Lib.hid (hBl.below hA)
          clear hA hyk
          go_wp2_with (fail)
          clear g1 g2
          generalize hw8 : wr.alloc (.cells #[.string s, .int .i64 p] 54) = w8 at *
          generalize wr.heap.size = x8 at *
          clear hw8
          refine wp_region_held_drew (S := fun w' => Below w.heap.size w w' ∧ Has x8 #[.string s, .int .i64 p] 54 w') (by kernel_rfl) ⟨hB.out.drew, hX.out.drew⟩ (fun hHeld => ?_)
          replace hBl := Lib.hid (show Du.Bld w.heap.size b (T ++ U) w8.drew from hBl.out)
          have q1 : IntKind.u32.wrap p = p := by rw [IntKind.wrap_u32]; omega
          have c5 : ¬ 9223372036854775807 < 5 + s.size := by omega
          have c6 : ¬ 9223372036854775807 < 5 + s.size + 1 := by omega
          clear hB hX
          revert hBl hHeld
          generalize w8.drew = v0
          intro hHeld hBl
          refine wpAnyH_take (i := 0) (oi := { dst := some 54, op := Op.fieldAddr 54 (Operand.tmp 11) 0, type := 0, pos := "dump.go:83", after := #[], guard := none }) (v := ?_) rfl (by kernel_rfl) (by kernel_rfl) (by kernel_rfl) (fun _ _ _ h => h) (Or.inl ⟨rfl, ?_⟩) hHeld ?_
          rotate_left
          · (intro wz hSw; (try dsimp only at hSw); go_simp; try with_reducible rfl)
          try simp only [Act.put, List.setIfInBounds_toArray, List.set_cons_zero, List.set_cons_succ]
          refine wpAnyH_take (i := 1) (oi := { dst := some 55, op := Op.load 9 (Operand.tmp 54), type := 9, pos := "dump.go:83", after := #[{ on := 0, ground := Ground.data }], guard := none }) (v := ?_) rfl (by kernel_rfl) (by kernel_rfl) (by kernel_rfl) (fun _ _ _ h => h) (Or.inl ⟨rfl, ?_⟩) hHeld ?_
          rotate_left
          · (intro wz hSw; have x1 := hSw.2.cell 0 (.string s) rfl; go_simp; try with_reducible rfl)
          try simp only [Act.put, List.setIfInBounds_toArray, List.set_cons_zero, List.set_cons_succ]
          refine wpAnyH_take (i := 2) (oi := { dst := some 56, op := Op.binOp BinOp.add 9 (Operand.const (Value.string { data := #[110, 97, 109, 101, 32] })) (Operand.tmp 55) 9, type := 9, pos := "dump.go:83", after := #[{ on := 1, ground := Ground.data }], guard := none }) (v := ?_) rfl (by kernel_rfl) (by kernel_rfl) (by kernel_rfl) (fun _ _ _ h => h) (Or.inl ⟨rfl, ?_⟩) hHeld ?_
          rotate_left
          · (intro wz hSw; go_simp; (try simp only [c5, c6, if_false]); try with_reducible rfl)
          try simp only [Act.put, List.setIfInBounds_toArray, List.set_cons_zero, List.set_cons_succ]
          refine wpAnyH_take (i := 3) (oi := { dst := some 57, op := Op.binOp BinOp.add 9 (Operand.tmp 56) (Operand.const (Value.string { data := #[32] })) 9, type := 9, pos := "dump.go:83", after := #[{ on := 2, ground := Ground.data }], guard := none }) (v := ?_) rfl (by kernel_rfl) (by kernel_rfl) (by kernel_rfl) (fun _ _ _ h => h) (Or.inl ⟨rfl, ?_⟩) hHeld ?_
          rotate_left
          · (intro wz hSw; go_simp; (try simp only [c5, c6, if_false]); try with_reducible rfl)
          try simp only [Act.put, List.setIfInBounds_toArray, List.set_cons_zero, List.set_cons_succ]
          refine wpAnyH_take (i := 4) (oi := { dst := some 58, op := Op.fieldAddr 54 (Operand.tmp 11) 1, type := 0, pos := "dump.go:83", after := #[], guard := none }) (v := ?_) rfl (by kernel_rfl) (by kernel_rfl) (by kernel_rfl) (fun _ _ _ h => h) (Or.inl ⟨rfl, ?_⟩) hHeld ?_
          rotate_left
          · (intro wz hSw; (try dsimp only at hSw); go_simp; try with_reducible rfl)
          try simp only [Act.put, List.setIfInBounds_toArray, List.set_cons_zero, List.set_cons_succ]
          refine wpAnyH_take (i := 5) (oi := { dst := some 59, op := Op.load 3 (Operand.tmp 58), type := 3, pos := "dump.go:83", after := #[{ on := 4, ground := Ground.data }], guard := none }) (v := ?_) rfl (by kernel_rfl) (by kernel_rfl) (by kernel_rfl) (fun _ _ _ h => h) (Or.inl ⟨rfl, ?_⟩) hHeld ?_
          rotate_left
          · (intro wz hSw; have x1 := hSw.2.cell 1 (.int .i64 p) rfl; go_simp; try with_reducible rfl)
          try simp only [Act.put, List.setIfInBounds_toArray, List.set_cons_zero, List.set_cons_succ]
          refine wpAnyH_take (i := 6) (oi := { dst := some 60, op := Op.convert 3 37 (Operand.tmp 59), type := 37, pos := "dump.go:83", after := #[{ on := 5, ground := Ground.data }], guard := none }) (v := ?_) rfl (by kernel_rfl) (by kernel_rfl) (by kernel_rfl) (fun _ _ _ h => h) (Or.inl ⟨rfl, ?_⟩) hHeld ?_
          rotate_left
          · (intro wz hSw; go_simp; (try simp only [q1]); try with_reducible rfl)
          try simp only [Act.put, List.setIfInBounds_toArray, List.set_cons_zero, List.set_cons_succ]
          refine wpAnyH_ready (rs := [7]) (by kernel_rfl) (by simp) ?_
          refine AllReadyH.cons (o := { dst := some 61, op := Op.call { callee := Callee.value (Operand.func 16), args := #[Operand.tmp 60], argTypes := #[37] }, type := 9, pos := "dump.go:83", after := #[{ on := 6, ground := Ground.data }], guard := none }) rfl (fun K hK => ?_) (AllReadyH.nil)
          go_simp
          go_at_call 16
          refine (Du.hex_any hp0 hp1 _).mono ?_
          rintro r v1 ⟨rfl, hE⟩
          have hN0 := hHeld.1.trans (hE.mono hHeld.1.size)
          have hN1 := hHeld.2.below hE
          have hBl1 := Lib.hid (hBl.out.below hE)
          obtain ⟨hH1, hH2⟩ := Du.hexS p hp0
          have hls := Lib.hid (Du.nameS_bs (y := (s, p)) hH1)
          generalize strOfNums (Du.hex p) = H at *
          replace hH2 := Lib.hid hH2
          clear hE hBl hH1
          have hN := (show (fun w' => Below w.heap.size w w' ∧ Has x8 #[.string s, .int .i64 p] 54 w') _ from ⟨hN0, hN1⟩)
          clear hHeld
          refine hK.out _ _ hN (fun hHeld => ?_)
          clear hK K hN
          try simp only [Act.put, List.setIfInBounds_toArray, List.set_cons_zero, List.set_cons_succ]
          refine wpAnyH_take (i := 8) (oi := { dst := some 62, op := Op.binOp BinOp.add 9 (Operand.tmp 57) (Operand.tmp 61) 9, type := 9, pos := "dump.go:83", after := #[{ on := 3, ground := Ground.data }, { on := 7, ground := Ground.data }], guard := none }) (v := ?_) rfl (by kernel_rfl) (by kernel_rfl) (by kernel_rfl) (fun _ _ _ h => h) (Or.inl ⟨rfl, ?_⟩) hHeld ?_
          rotate_left
          · (intro wz hSw; have hH3 := hH2.out; have c7 : ¬ 9223372036854775807 < 5 + s.size + 1 + H.size := (by omega); have c8 : ¬ 9223372036854775807 < 5 + s.size + 1 + H.size + 1 := (by omega); clear hH3; go_simp; (try simp only [c7, c8, if_false]); try with_reducible rfl)
          try simp only [Act.put, List.setIfInBounds_toArray, List.set_cons_zero, List.set_cons_succ]
          refine wpAnyH_take (i := 9) (oi := { dst := some 63, op := Op.binOp BinOp.add 9 (Operand.tmp 62) (Operand.const (Value.string { data := #[10] })) 9, type := 9, pos := "dump.go:83", after := #[{ on := 8, ground := Ground.data }], guard := none }) (v := ?_) rfl (by kernel_rfl) (by kernel_rfl) (by kernel_rfl) (fun _ _ _ h => h) (Or.inl ⟨rfl, ?_⟩) hHeld ?_
          rotate_left
          · (intro wz hSw; have hH3 := hH2.out; have c7 : ¬ 9223372036854775807 < 5 + s.size + 1 + H.size := (by omega); have c8 : ¬ 9223372036854775807 < 5 + s.size + 1 + H.size + 1 := (by omega); clear hH3; go_simp; (try simp only [c7, c8, if_false]); try with_reducible rfl)
          try simp only [Act.put, List.setIfInBounds_toArray, List.set_cons_zero, List.set_cons_succ]
          refine wpAnyH_ready (rs := [10]) (by kernel_rfl) (by simp) ?_
          refine AllReadyH.cons (o := { dst := some 64, op := Op.call { callee := Callee.value (Operand.func 25), args := #[Operand.tmp 5, Operand.tmp 63], argTypes := #[57, 9] }, type := 60, pos := "dump.go:83", after := #[{ on := 9, ground := Ground.data }, { on := 7, ground := Ground.chain }], guard := none }) rfl (fun K hK => ?_) (AllReadyH.nil)
          have hsz : ((⟨#[110, 97, 109, 101, 32]⟩ : ByteArray) ++ s ++ ⟨#[32]⟩ ++ H ++ ⟨#[10]⟩).size = 15 + s.size := Du.nline_size hls.out
          have hlen : (T ++ U).length + ((⟨#[110, 97, 109, 101, 32]⟩ : ByteArray) ++ s ++ ⟨#[32]⟩ ++ H ++ ⟨#[10]⟩).size ≤ 1000000000 := by rw [hsz, List.length_append]; omega
          have hpos : 0 < ((⟨#[110, 97, 109, 101, 32]⟩ : ByteArray) ++ s ++ ⟨#[32]⟩ ++ H ++ ⟨#[10]⟩).size := by rw [hsz]; omega
          go_simp
          go_at_call 25
          refine (Du.write_any hBl1.out _ hlen hpos hHeld.1.size).mono ?_
          rintro r v2 ⟨rfl, hBl5, hE, hSp⟩
          rw [hls.out, List.append_assoc, ← hst.out] at hBl5
          have hN0 := hHeld.1.trans hE
          have hN1 := hSp _ _ _ (by decide) (by decide) hHeld.2
          replace hBl5 := Lib.hid hBl5
          clear hE hSp hBl1 hlen hpos hsz c5 c6 hH2 q1
          have hN := (show (fun w' => Below w.heap.size w w' ∧ Has x8 #[.string s, .int .i64 p] 54 w') _ from ⟨hN0, hN1⟩)
          clear hHeld
          refine hK.out _ _ hN (fun hHeld => ?_)
          clear hK K hN
          try simp only [Act.put, List.setIfInBounds_toArray, List.set_cons_zero, List.set_cons_succ]
          refine wpAnyH_done (by kernel_rfl) ?_ _
          go_wp2
          exact ⟨⟨q + 1, by omega, by go_num, hBl5.out, hHeld.1⟩, by simp [intOf]; omega⟩
        · have d4 : ¬ (q : Int) < k := by omega
          obtain rfl : q = k := by omega
          rw [List.take_of_length_le (by omega), hfin.out] at hBl
          replace hBl := Lib.hid hBl
          replace hB := Lib.hid hB
          go_wp2_with (fail)
          refine (Du.str_any hBl.out (Du.put_byt ws ss ys)).mono ?_; rintro r w9 ⟨rfl, hE⟩
          replace hB := Lib.hid (hB.out.trans hE)
          clear hE hBl
          go_wp2
          go_ret2
          exact ⟨rfl, hB.out⟩
end Go.Proofs.Ytpfejjkoemnmiaa
