/-
  The contract of the document's Put of package dump.
-/
import Derived.Test.YtpfejjkoemnmiaaDu5
import Derived.Test.YtpfejjkoemnmiaaOb4
namespace Go.Proofs.Ytpfejjkoemnmiaa
open Go.RowKit
set_option linter.unusedVariables false
set_option linter.unusedSimpArgs false
set_option maxRecDepth 100000
theorem Du.rline_word {x : Int} {T : List Int} {S H : ByteArray} (hS : L.bs S = T) (hH : L.bs H = Du.hex x) : L.bs (S ++ ⟨#[119, 111, 114, 100, 32]⟩ ++ H ++ ⟨#[10]⟩) = T ++ (Du.wl false x ++ [10]) := by
  rw [L.bs_append, L.bs_append, L.bs_append, hH, hS, List.append_assoc, List.append_assoc]
  rfl
theorem Du.rline_addr {x : Int} {T : List Int} {S H : ByteArray} (hS : L.bs S = T) (hH : L.bs H = Du.hex x) : L.bs (S ++ ⟨#[97, 100, 100, 114, 32]⟩ ++ H ++ ⟨#[10]⟩) = T ++ (Du.wl true x ++ [10]) := by
  rw [L.bs_append, L.bs_append, L.bs_append, hH, hS, List.append_assoc, List.append_assoc]
  rfl
theorem Du.rline_name {y : Ob.Y} {T : List Int} {S H : ByteArray} (hS : L.bs S = T) (hH : L.bs H = Du.hex y.2) : L.bs (S ++ ⟨#[110, 97, 109, 101, 32]⟩ ++ y.1 ++ ⟨#[32]⟩ ++ H ++ ⟨#[10]⟩) = T ++ (Du.nl y ++ [10]) := by
  rw [L.bs_append, L.bs_append, L.bs_append, L.bs_append, L.bs_append, hH, hS]
  unfold Du.nl
  rw [show L.bs (⟨#[110, 97, 109, 101, 32]⟩ : ByteArray) = Du.nameH from rfl, show L.bs (⟨#[32]⟩ : ByteArray) = [32] from rfl, show L.bs (⟨#[10]⟩ : ByteArray) = [10] from rfl]
  simp only [List.append_assoc]
set_option maxHeartbeats 4000000 in
set_option maxRecDepth 100000 in
theorem Du.rput_any {w : World} {A B C : Option Addr} {n c m d k e : Nat} {ws ss : List Int} {ys : List Ob.Y} (hW : Wo w A n c ws) (hS : In w B m d ss) (hY : Sy w C k e ys) (hsz : ∀ y ∈ ys, y.1.size ≤ 1000000) :
    Calls Try.prog 11 #[.agg #[.slice A n c, .slice B m d, .slice C k e]] w fun r w' => r = .returned (.tuple #[.string (strOfNums (Du.pB ws ss ys)), .int .i64 (Ob.may ws ss ys)]) ∧ Below w.heap.size w w' := by
  have hO := Has.new #[.slice A n c, .slice B m d, .slice C k e] 26 w
  have hB := ((Kept.refl w).alloc #[.slice A n c, .slice B m d, .slice C k e] 26).below
  have hlw := hW.len
  have hls := hS.len
  have hly := hY.len
  have hle2 := hY.le
  have hmx2 := hY.max
  unfold maxLen at hmx2
  have hmd : m ≤ 9223372036854775807 := by have h1 := hS.le; have h2 := hS.max; unfold maxLen at h2; omega
  have hwr := hW.rng
  have hS1 : w.heap.size ≤ (w.alloc (.cells #[.slice A n c, .slice B m d, .slice C k e] 26)).heap.size := hB.size
  replace hW := Lib.hid (hW.below hB)
  replace hS := Lib.hid (hS.below hB)
  replace hY := Lib.hid (hY.below hB)
  replace hB := Lib.hid hB
  by_cases cm : Ob.may ws ss ys = 0
  case neg =>
    rw [Du.put_no cm]
    have CM := Lib.hid (fun (v : World) (h1 : Wo v A n c ws) (h2 : In v B m d ss) (h3 : Sy v C k e ys) => Ob.rmay_any h1 h2 h3 hsz)
    generalize Ob.may ws ss ys = z at *
    have z1 : (z == 0) = false := by simpa using cm
    have z2 : (z != 0) = true := by simpa using cm
    replace hO := Lib.hid hO
    go_enter Try.func11, Try.ntmps11
    go_wp2_with (first
      | (with_reducible refine load_has (o := ⟨some 10, _, _, _, _, _⟩) rfl 26 (.tmp 1) rfl w.heap.size rfl hO.out Try.underlying26 rfl (Ob.info26 _ _ _) ?_)
      | fail)
    generalize w.alloc (.cells #[.slice A n c, .slice B m d, .slice C k e] 26) = w1 at *
    refine (CM.out _ hW.out hS.out hY.out).mono ?_; rintro r w2 ⟨rfl, hE⟩
    replace hB := Lib.hid (hB.out.trans (hE.mono hS1))
    clear hE CM hW hS hY hO
    go_wp2
    go_ret2
    exact ⟨rfl, hB.out⟩
  rw [Du.put_yes cm]
  have hK := Fi.may_ok hwr cm
  have hR := (Ob.rises_iff _ _).1 hK.hR
  have hL0 := Lib.hid (Du.Left.start hR.2 (fun s hs => (hR.1 s hs).1))
  have hn := hK.hn
  have hk := hK.hy
  have CM := Lib.hid (fun (v : World) (h1 : Wo v A n c ws) (h2 : In v B m d ss) (h3 : Sy v C k e ys) => Ob.rmay_any h1 h2 h3 hsz)
  rw [cm] at CM ⊢
  rw [hlw] at hn
  rw [hly] at hk
  replace hwr := Lib.hid hwr
  replace hK := Lib.hid hK
  replace hO := Lib.hid hO
  replace hsz := Lib.hid hsz
  clear hR
  go_enter Try.func11, Try.ntmps11
  go_wp2_with (first
    | (with_reducible refine load_has (o := ⟨some 10, _, _, _, _, _⟩) rfl 26 (.tmp 1) rfl w.heap.size rfl hO.out Try.underlying26 rfl (Ob.info26 _ _ _) ?_)
    | fail)
  generalize w.alloc (.cells #[.slice A n c, .slice B m d, .slice C k e] 26) = w1 at *
  refine (CM.out _ hW.out hS.out hY.out).mono ?_; rintro r w2 ⟨rfl, hE⟩
  replace hB := Lib.hid (hB.out.trans (hE.mono hS1))
  replace hO := hO.out.below hE
  replace hW := Lib.hid (hW.out.below hE)
  replace hS := Lib.hid (hS.out.below hE)
  replace hY := Lib.hid (hY.out.below hE)
  have o0 := hO.cell 0 (.slice A n c) rfl
  have o1 := hO.cell 1 (.slice B m d) rfl
  replace hO := Lib.hid hO
  clear hE CM hS1
  go_wp2_with (fail)
  go_loopw [5, 6, 7] (fun o a i wr => ∃ (j q : Nat) (S : ByteArray), j ≤ n ∧ q ≤ m ∧ i = .int .i64 j ∧ a = .int .i64 q ∧ o = .string S ∧ L.bs S = Du.text (Du.wls ss 0 (ws.take j)) ∧ Du.Left ss j (ss.drop q) ∧ w2 = wr) (fun _ _ i _ => n - (intOf i).toNat)
  case atStart => exact ⟨0, 0, _, Nat.zero_le _, Nat.zero_le _, rfl, rfl, rfl, rfl, hL0.out, rfl⟩
  case round =>
    clear hL0
    obtain ⟨j, q, S, hj, hq, rfl, rfl, rfl, hSt, hLf, rfl⟩ := hrel
    by_cases d1 : j < n
    · have d2 : (j : Int) < n := by omega
      obtain ⟨bA, oA, rfl⟩ := hW.out.place (by omega)
      have hjx : ws[j]? = some (ws.getD j 0) := by rw [List.getD_eq_getElem?_getD, List.getElem?_eq_getElem (by omega)]; rfl
      have g0 := hW.out.cellAt j _ hjx
      have hxr := hwr.out _ (List.mem_of_getElem? hjx)
      have hst := Lib.hid (Du.words_step (ws := ws) (ss := ss) (j := j) (by omega))
      have htl := Du.wls_len (S := ss) (ws.take j) 0
      rw [List.length_take, Nat.min_eq_left (by omega), ← hSt, L.bs_len] at htl
      generalize ws.getD j 0 = x at *
      generalize Du.text (Du.wls ss 0 (ws.take j)) = T at *
      have x0 := hxr.1
      have x1 := hxr.2
      have hS14 : S.size ≤ 14336 := by omega
      clear hxr hjx htl
      by_cases cq : q < m
      · have cq2 : (q : Int) < m := by omega
        obtain ⟨bL, oL, rfl⟩ := hS.out.place (by omega)
        have hqx : ss[q]? = some (ss.getD q 0) := by rw [List.getD_eq_getElem?_getD, List.getElem?_eq_getElem (by omega)]; rfl
        have g1 := hS.out.cellAt q _ hqx
        have hdq : ss.drop q = ss.getD q 0 :: ss.drop (q + 1) := by
          rw [List.drop_eq_getElem_cons (by omega), List.getD_eq_getElem?_getD, List.getElem?_eq_getElem (by omega)]; rfl
        rw [hdq] at hLf
        replace hdq := Lib.hid hdq
        clear hqx
        generalize ss.getD q 0 = s at *
        by_cases cs : s = (j : Int)
        · subst cs
          obtain ⟨hyes, hLn⟩ := hLf.hit
          rw [decide_eq_true hyes] at hst
          replace hLn := Lib.hid hLn
          clear hLf hyes
          go_wp2_with (fail)
          refine (Du.rhex_any x0 x1 _).mono ?_; rintro r w4 ⟨rfl, rfl⟩
          obtain ⟨hH1, hH2⟩ := Du.hexS x x0
          have hl := Du.rline_addr hSt hH1
          rw [← hst.out] at hl
          replace hl := Lib.hid hl
          generalize strOfNums (Du.hex x) = H at *
          clear hH1
          have hc1 : ¬ 9223372036854775807 < S.size + 5 + H.size := by omega
          have hc2 : ¬ 9223372036854775807 < S.size + 5 + H.size + 1 := by omega
          go_wp2
          clear hc1 hc2 hH2
          exact ⟨⟨j + 1, q + 1, _, d1, by omega, by go_num, by go_num, rfl, hl.out, hLn.out, trivial⟩, by simp [intOf]; omega⟩
        · obtain ⟨hno, hLn⟩ := hLf.miss cs
          rw [decide_eq_false hno] at hst
          have z1 : (s == (j : Int)) = false := by simpa using cs
          rw [← hdq.out] at hLn
          replace hLn := Lib.hid hLn
          clear hLf hno
          go_wp2_with (fail)
          refine (Du.rhex_any x0 x1 _).mono ?_; rintro r w4 ⟨rfl, rfl⟩
          obtain ⟨hH1, hH2⟩ := Du.hexS x x0
          have hl := Du.rline_word hSt hH1
          rw [← hst.out] at hl
          replace hl := Lib.hid hl
          generalize strOfNums (Du.hex x) = H at *
          clear hH1
          have hc1 : ¬ 9223372036854775807 < S.size + 5 + H.size := by omega
          have hc2 : ¬ 9223372036854775807 < S.size + 5 + H.size + 1 := by omega
          go_wp2
          clear hc1 hc2 hH2
          exact ⟨⟨j + 1, q, _, d1, by omega, by go_num, rfl, rfl, hl.out, hLn.out, trivial⟩, by simp [intOf]; omega⟩
      · have cq2 : ¬ (q : Int) < m := by omega
        obtain rfl : q = m := by omega
        have hnil : ss.drop q = [] := List.drop_of_length_le (by omega)
        rw [hnil] at hLf
        obtain ⟨hno, hLn⟩ := hLf.nil
        rw [decide_eq_false hno] at hst
        rw [← hnil] at hLn
        replace hLn := Lib.hid hLn
        clear hLf hno hnil
        go_wp2_with (fail)
        refine (Du.rhex_any x0 x1 _).mono ?_; rintro r w4 ⟨rfl, rfl⟩
        obtain ⟨hH1, hH2⟩ := Du.hexS x x0
        have hl := Du.rline_word hSt hH1
        rw [← hst.out] at hl
        replace hl := Lib.hid hl
        generalize strOfNums (Du.hex x) = H at *
        clear hH1
        have hc1 : ¬ 9223372036854775807 < S.size + 5 + H.size := by omega
        have hc2 : ¬ 9223372036854775807 < S.size + 5 + H.size + 1 := by omega
        go_wp2
        clear hc1 hc2 hH2
        exact ⟨⟨j + 1, q, _, d1, by omega, by go_num, rfl, rfl, hl.out, hLn.out, trivial⟩, by simp [intOf]; omega⟩
    · have d2 : ¬ (j : Int) < n := by omega
      obtain rfl : j = n := by omega
      rw [List.take_of_length_le (by omega)] at hSt
      have hTl := Du.wls_len (S := ss) ws 0
      rw [← hSt, L.bs_len] at hTl
      have hfin : Du.text (Du.wls ss 0 ws) ++ Du.text (ys.map Du.nl) = Du.put ws ss ys := Du.put_parts.symm
      replace hfin := Lib.hid hfin
      generalize Du.text (Du.wls ss 0 ws) = T at *
      have o2 := hO.out.cell 2 (.slice C k e) rfl
      have hS14 : S.size ≤ 14336 := by omega
      clear hLf hTl
      go_wp2_with (fail)
      go_loopw [5, 9] (fun o i wr => ∃ (t : Nat) (S : ByteArray), t ≤ k ∧ i = .int .i64 t ∧ o = .string S ∧ L.bs S = T ++ Du.text ((ys.take t).map Du.nl) ∧ Below w2.heap.size w2 wr) (fun _ i _ => k - (intOf i).toNat)
      case atStart => exact ⟨0, S, Nat.zero_le _, rfl, rfl, by rw [List.take_zero, List.map_nil, show Du.text [] = [] from rfl, List.append_nil]; exact hSt, Below.refl _ _⟩
      case round =>
        have hT14 : T.length ≤ 14336 := by rw [← hSt, L.bs_len]; exact hS14
        clear hSt hS14 o0 o1 o2
        obtain ⟨t, Z, ht, rfl, rfl, hZt, hE⟩ := hrel
        have o2 := (hO.out.below hE).cell 2 (.slice C k e) rfl
        by_cases d3 : t < k
        · have d4 : (t : Int) < k := by omega
          obtain ⟨bc, oc, rfl⟩ := hY.out.place (by omega)
          have hyk := hK.out.at (k := t) (by omega)
          have hst := Lib.hid (Du.names_step (ys := ys) (j := t) (by omega))
          have htl := Du.names_len hK.out.hN t
          have hYt := Lib.hid (fun (v : World) (hv : Below w2.heap.size w2 v) => (And.intro ((hO.out.below hv).cell 2 _ rfl) (And.intro ((hY.out.below hv).name t d3) ((hY.out.below hv).at t d3)) : v.cell? ⟨w.heap.size, 2, none⟩ = some (.slice (some ⟨bc, oc, none⟩) k e) ∧ v.cell? ⟨bc, oc + t * 2, none⟩ = some (.string (Ob.nm ys t)) ∧ v.cell? ⟨bc, oc + t * 2 + 1, none⟩ = some (.int .i64 (Ob.pl ys t))))
          have hZl : Z.size = T.length + (Du.text ((ys.take t).map Du.nl)).length := by rw [← L.bs_len, hZt, List.length_append]
          generalize Du.text ((ys.take t).map Du.nl) = U at *
          generalize Ob.nm ys t = s at *
          generalize Ob.pl ys t = p at *
          have hp0 : 0 ≤ p := hyk.2.1
          have hp1 : p < 4294967296 := hyk.2.2
          have hs12 : s.size ≤ 12 := by rw [← L.bs_len]; exact (L.name_len hyk.1).2
          have hZ2 : Z.size ≤ 20000 := by omega
          replace hE := Lib.hid hE
          clear hyk htl hZl
          go_wp2_with (fail)
          clear o2
          refine wp_region_held_drew (S := fun w' => Below w2.heap.size w2 w') (by kernel_rfl) hE.out.drew (fun hHeld => ?_)
          have q1 : IntKind.u32.wrap p = p := by rw [IntKind.wrap_u32]; omega
          have c1 : ¬ 9223372036854775807 < Z.size + 5 := by omega
          have c2 : ¬ 9223372036854775807 < Z.size + 5 + s.size := by omega
          have c3 : ¬ 9223372036854775807 < Z.size + 5 + s.size + 1 := by omega
          clear hE
          refine wpAnyH_take (i := 0) (oi := { dst := some 56, op := Op.move (Operand.tmp 5), type := 9, pos := "ref.go:58", after := #[], guard := none }) (v := ?_) rfl (by kernel_rfl) (by kernel_rfl) (by kernel_rfl) (fun _ _ _ h => h) (Or.inl ⟨rfl, ?_⟩) hHeld ?_
          rotate_left
          · (intro wz hSw; (try dsimp only at hSw); go_simp; try with_reducible rfl)
          try simp only [Act.put, List.setIfInBounds_toArray, List.set_cons_zero, List.set_cons_succ]
          refine wpAnyH_take (i := 1) (oi := { dst := some 57, op := Op.binOp BinOp.add 9 (Operand.tmp 56) (Operand.const (Value.string { data := #[110, 97, 109, 101, 32] })) 9, type := 9, pos := "ref.go:58", after := #[{ on := 0, ground := Ground.data }], guard := none }) (v := ?_) rfl (by kernel_rfl) (by kernel_rfl) (by kernel_rfl) (fun _ _ _ h => h) (Or.inl ⟨rfl, ?_⟩) hHeld ?_
          rotate_left
          · (intro wz hSw; go_simp; (try simp only [c1, c2, c3, if_false]); try with_reducible rfl)
          try simp only [Act.put, List.setIfInBounds_toArray, List.set_cons_zero, List.set_cons_succ]
          refine wpAnyH_take (i := 2) (oi := { dst := some 58, op := Op.fieldAddr 26 (Operand.tmp 1) 2, type := 0, pos := "ref.go:58", after := #[], guard := none }) (v := ?_) rfl (by kernel_rfl) (by kernel_rfl) (by kernel_rfl) (fun _ _ _ h => h) (Or.inl ⟨rfl, ?_⟩) hHeld ?_
          rotate_left
          · (intro wz hSw; (try dsimp only at hSw); go_simp; try with_reducible rfl)
          try simp only [Act.put, List.setIfInBounds_toArray, List.set_cons_zero, List.set_cons_succ]
          refine wpAnyH_take (i := 3) (oi := { dst := some 59, op := Op.load 24 (Operand.tmp 58), type := 24, pos := "ref.go:58", after := #[{ on := 2, ground := Ground.data }], guard := none }) (v := ?_) rfl (by kernel_rfl) (by kernel_rfl) (by kernel_rfl) (fun _ _ _ h => h) (Or.inl ⟨rfl, ?_⟩) hHeld ?_
          rotate_left
          · (intro wz hSw; have hx := hYt.out _ hSw; have o2 := hx.1; have g1 := hx.2.1; have g2 := hx.2.2; go_simp; try with_reducible rfl)
          try simp only [Act.put, List.setIfInBounds_toArray, List.set_cons_zero, List.set_cons_succ]
          refine wpAnyH_take (i := 4) (oi := { dst := some 60, op := Op.move (Operand.tmp 9), type := 3, pos := "ref.go:58", after := #[], guard := none }) (v := ?_) rfl (by kernel_rfl) (by kernel_rfl) (by kernel_rfl) (fun _ _ _ h => h) (Or.inl ⟨rfl, ?_⟩) hHeld ?_
          rotate_left
          · (intro wz hSw; (try dsimp only at hSw); go_simp; try with_reducible rfl)
          try simp only [Act.put, List.setIfInBounds_toArray, List.set_cons_zero, List.set_cons_succ]
          refine wpAnyH_take (i := 5) (oi := { dst := some 61, op := Op.indexAddr 24 (Operand.tmp 59) (Operand.tmp 60), type := 0, pos := "ref.go:58", after := #[{ on := 3, ground := Ground.data }, { on := 4, ground := Ground.data }], guard := none }) (v := ?_) rfl (by kernel_rfl) (by kernel_rfl) (by kernel_rfl) (fun _ _ _ h => h) (Or.inl ⟨rfl, ?_⟩) hHeld ?_
          rotate_left
          · (intro wz hSw; have hx := hYt.out _ hSw; have o2 := hx.1; have g1 := hx.2.1; have g2 := hx.2.2; go_simp; try with_reducible rfl)
          try simp only [Act.put, List.setIfInBounds_toArray, List.set_cons_zero, List.set_cons_succ]
          refine wpAnyH_take (i := 6) (oi := { dst := some 62, op := Op.fieldAddr 54 (Operand.tmp 61) 0, type := 0, pos := "ref.go:58", after := #[{ on := 5, ground := Ground.data }], guard := none }) (v := ?_) rfl (by kernel_rfl) (by kernel_rfl) (by kernel_rfl) (fun _ _ _ h => h) (Or.inl ⟨rfl, ?_⟩) hHeld ?_
          rotate_left
          · (intro wz hSw; (try dsimp only at hSw); go_simp; try with_reducible rfl)
          try simp only [Act.put, List.setIfInBounds_toArray, List.set_cons_zero, List.set_cons_succ]
          refine wpAnyH_take (i := 7) (oi := { dst := some 63, op := Op.load 9 (Operand.tmp 62), type := 9, pos := "ref.go:58", after := #[{ on := 6, ground := Ground.data }], guard := none }) (v := ?_) rfl (by kernel_rfl) (by kernel_rfl) (by kernel_rfl) (fun _ _ _ h => h) (Or.inl ⟨rfl, ?_⟩) hHeld ?_
          rotate_left
          · (intro wz hSw; have hx := hYt.out _ hSw; have o2 := hx.1; have g1 := hx.2.1; have g2 := hx.2.2; go_simp; try with_reducible rfl)
          try simp only [Act.put, List.setIfInBounds_toArray, List.set_cons_zero, List.set_cons_succ]
          refine wpAnyH_take (i := 8) (oi := { dst := some 64, op := Op.binOp BinOp.add 9 (Operand.tmp 57) (Operand.tmp 63) 9, type := 9, pos := "ref.go:58", after := #[{ on := 1, ground := Ground.data }, { on := 7, ground := Ground.data }], guard := none }) (v := ?_) rfl (by kernel_rfl) (by kernel_rfl) (by kernel_rfl) (fun _ _ _ h => h) (Or.inl ⟨rfl, ?_⟩) hHeld ?_
          rotate_left
          · (intro wz hSw; go_simp; (try simp only [c1, c2, c3, if_false]); try with_reducible rfl)
          try simp only [Act.put, List.setIfInBounds_toArray, List.set_cons_zero, List.set_cons_succ]
          refine wpAnyH_take (i := 9) (oi := { dst := some 65, op := Op.binOp BinOp.add 9 (Operand.tmp 64) (Operand.const (Value.string { data := #[32] })) 9, type := 9, pos := "ref.go:58", after := #[{ on := 8, ground := Ground.data }], guard := none }) (v := ?_) rfl (by kernel_rfl) (by kernel_rfl) (by kernel_rfl) (fun _ _ _ h => h) (Or.inl ⟨rfl, ?_⟩) hHeld ?_
          rotate_left
          · (intro wz hSw; go_simp; (try simp only [c1, c2, c3, if_false]); try with_reducible rfl)
          try simp only [Act.put, List.setIfInBounds_toArray, List.set_cons_zero, List.set_cons_succ]
          refine wpAnyH_take (i := 10) (oi := { dst := some 66, op := Op.fieldAddr 26 (Operand.tmp 1) 2, type := 0, pos := "ref.go:58", after := #[], guard := none }) (v := ?_) rfl (by kernel_rfl) (by kernel_rfl) (by kernel_rfl) (fun _ _ _ h => h) (Or.inl ⟨rfl, ?_⟩) hHeld ?_
          rotate_left
          · (intro wz hSw; (try dsimp only at hSw); go_simp; try with_reducible rfl)
          try simp only [Act.put, List.setIfInBounds_toArray, List.set_cons_zero, List.set_cons_succ]
          refine wpAnyH_take (i := 11) (oi := { dst := some 67, op := Op.load 24 (Operand.tmp 66), type := 24, pos := "ref.go:58", after := #[{ on := 10, ground := Ground.data }], guard := none }) (v := ?_) rfl (by kernel_rfl) (by kernel_rfl) (by kernel_rfl) (fun _ _ _ h => h) (Or.inl ⟨rfl, ?_⟩) hHeld ?_
          rotate_left
          · (intro wz hSw; have hx := hYt.out _ hSw; have o2 := hx.1; have g1 := hx.2.1; have g2 := hx.2.2; go_simp; try with_reducible rfl)
          try simp only [Act.put, List.setIfInBounds_toArray, List.set_cons_zero, List.set_cons_succ]
          refine wpAnyH_take (i := 12) (oi := { dst := some 68, op := Op.move (Operand.tmp 9), type := 3, pos := "ref.go:58", after := #[], guard := none }) (v := ?_) rfl (by kernel_rfl) (by kernel_rfl) (by kernel_rfl) (fun _ _ _ h => h) (Or.inl ⟨rfl, ?_⟩) hHeld ?_
          rotate_left
          · (intro wz hSw; (try dsimp only at hSw); go_simp; try with_reducible rfl)
          try simp only [Act.put, List.setIfInBounds_toArray, List.set_cons_zero, List.set_cons_succ]
          refine wpAnyH_take (i := 13) (oi := { dst := some 69, op := Op.indexAddr 24 (Operand.tmp 67) (Operand.tmp 68), type := 0, pos := "ref.go:58", after := #[{ on := 11, ground := Ground.data }, { on := 12, ground := Ground.data }], guard := none }) (v := ?_) rfl (by kernel_rfl) (by kernel_rfl) (by kernel_rfl) (fun _ _ _ h => h) (Or.inl ⟨rfl, ?_⟩) hHeld ?_
          rotate_left
          · (intro wz hSw; have hx := hYt.out _ hSw; have o2 := hx.1; have g1 := hx.2.1; have g2 := hx.2.2; go_simp; try with_reducible rfl)
          try simp only [Act.put, List.setIfInBounds_toArray, List.set_cons_zero, List.set_cons_succ]
          refine wpAnyH_take (i := 14) (oi := { dst := some 70, op := Op.fieldAddr 54 (Operand.tmp 69) 1, type := 0, pos := "ref.go:58", after := #[{ on := 13, ground := Ground.data }], guard := none }) (v := ?_) rfl (by kernel_rfl) (by kernel_rfl) (by kernel_rfl) (fun _ _ _ h => h) (Or.inl ⟨rfl, ?_⟩) hHeld ?_
          rotate_left
          · (intro wz hSw; (try dsimp only at hSw); go_simp; try with_reducible rfl)
          try simp only [Act.put, List.setIfInBounds_toArray, List.set_cons_zero, List.set_cons_succ]
          refine wpAnyH_take (i := 15) (oi := { dst := some 71, op := Op.load 3 (Operand.tmp 70), type := 3, pos := "ref.go:58", after := #[{ on := 14, ground := Ground.data }], guard := none }) (v := ?_) rfl (by kernel_rfl) (by kernel_rfl) (by kernel_rfl) (fun _ _ _ h => h) (Or.inl ⟨rfl, ?_⟩) hHeld ?_
          rotate_left
          · (intro wz hSw; have hx := hYt.out _ hSw; have o2 := hx.1; have g1 := hx.2.1; have g2 := hx.2.2; go_simp; try with_reducible rfl)
          try simp only [Act.put, List.setIfInBounds_toArray, List.set_cons_zero, List.set_cons_succ]
          refine wpAnyH_take (i := 16) (oi := { dst := some 72, op := Op.convert 3 37 (Operand.tmp 71), type := 37, pos := "ref.go:58", after := #[{ on := 15, ground := Ground.data }], guard := none }) (v := ?_) rfl (by kernel_rfl) (by kernel_rfl) (by kernel_rfl) (fun _ _ _ h => h) (Or.inl ⟨rfl, ?_⟩) hHeld ?_
          rotate_left
          · (intro wz hSw; go_simp; (try simp only [q1]); try with_reducible rfl)
          try simp only [Act.put, List.setIfInBounds_toArray, List.set_cons_zero, List.set_cons_succ]
          refine wpAnyH_ready (rs := [17]) (by kernel_rfl) (by simp) ?_
          refine AllReadyH.cons (o := { dst := some 73, op := Op.call { callee := Callee.value (Operand.func 19), args := #[Operand.tmp 72], argTypes := #[37] }, type := 9, pos := "ref.go:58", after := #[{ on := 16, ground := Ground.data }], guard := none }) rfl (fun K hK => ?_) (AllReadyH.nil)
          go_simp
          go_at_call 19
          refine (Du.rhex_any hp0 hp1 _).mono ?_
          rintro r v1 ⟨rfl, rfl⟩
          obtain ⟨hH1, hH2⟩ := Du.hexS p hp0
          have hl := Du.rline_name (y := (s, p)) hZt hH1
          rw [List.append_assoc, ← hst.out] at hl
          replace hl := Lib.hid hl
          generalize strOfNums (Du.hex p) = H at *
          replace hH2 := Lib.hid hH2
          clear hH1
          have hN := (show (fun w' => Below w2.heap.size w2 w') _ from hHeld)
          clear hHeld
          refine hK.out _ _ hN (fun hHeld => ?_)
          clear hK K hN
          try simp only [Act.put, List.setIfInBounds_toArray, List.set_cons_zero, List.set_cons_succ]
          refine wpAnyH_take (i := 18) (oi := { dst := some 74, op := Op.binOp BinOp.add 9 (Operand.tmp 65) (Operand.tmp 73) 9, type := 9, pos := "ref.go:58", after := #[{ on := 9, ground := Ground.data }, { on := 17, ground := Ground.data }], guard := none }) (v := ?_) rfl (by kernel_rfl) (by kernel_rfl) (by kernel_rfl) (fun _ _ _ h => h) (Or.inl ⟨rfl, ?_⟩) hHeld ?_
          rotate_left
          · (intro wz hSw; have hH3 := hH2.out; have c7 : ¬ 9223372036854775807 < Z.size + 5 + s.size + 1 + H.size := (by omega); have c8 : ¬ 9223372036854775807 < Z.size + 5 + s.size + 1 + H.size + 1 := (by omega); clear hH3; go_simp; (try simp only [c7, c8, if_false]); try with_reducible rfl)
          try simp only [Act.put, List.setIfInBounds_toArray, List.set_cons_zero, List.set_cons_succ]
          refine wpAnyH_take (i := 19) (oi := { dst := some 75, op := Op.binOp BinOp.add 9 (Operand.tmp 74) (Operand.const (Value.string { data := #[10] })) 9, type := 9, pos := "ref.go:58", after := #[{ on := 18, ground := Ground.data }], guard := none }) (v := ?_) rfl (by kernel_rfl) (by kernel_rfl) (by kernel_rfl) (fun _ _ _ h => h) (Or.inl ⟨rfl, ?_⟩) hHeld ?_
          rotate_left
          · (intro wz hSw; have hH3 := hH2.out; have c7 : ¬ 9223372036854775807 < Z.size + 5 + s.size + 1 + H.size := (by omega); have c8 : ¬ 9223372036854775807 < Z.size + 5 + s.size + 1 + H.size + 1 := (by omega); clear hH3; go_simp; (try simp only [c7, c8, if_false]); try with_reducible rfl)
          try simp only [Act.put, List.setIfInBounds_toArray, List.set_cons_zero, List.set_cons_succ]
          refine wpAnyH_take (i := 20) (oi := { dst := some 5, op := Op.assign (Operand.tmp 75), type := 9, pos := "ref.go:58", after := #[{ on := 19, ground := Ground.data }, { on := 17, ground := Ground.chain }, { on := 0, ground := Ground.phase }, { on := 1, ground := Ground.phase }, { on := 2, ground := Ground.phase }, { on := 3, ground := Ground.phase }, { on := 4, ground := Ground.phase }, { on := 5, ground := Ground.phase }, { on := 6, ground := Ground.phase }, { on := 7, ground := Ground.phase }, { on := 8, ground := Ground.phase }, { on := 9, ground := Ground.phase }, { on := 10, ground := Ground.phase }, { on := 11, ground := Ground.phase }, { on := 12, ground := Ground.phase }, { on := 13, ground := Ground.phase }, { on := 14, ground := Ground.phase }, { on := 15, ground := Ground.phase }, { on := 16, ground := Ground.phase }, { on := 17, ground := Ground.phase }, { on := 18, ground := Ground.phase }, { on := 19, ground := Ground.phase }], guard := none }) (v := ?_) rfl (by kernel_rfl) (by kernel_rfl) (by kernel_rfl) (fun _ _ _ h => h) (Or.inl ⟨rfl, ?_⟩) hHeld ?_
          rotate_left
          · (intro wz hSw; (try dsimp only at hSw); go_simp; try with_reducible rfl)
          try simp only [Act.put, List.setIfInBounds_toArray, List.set_cons_zero, List.set_cons_succ]
          refine wpAnyH_done (by kernel_rfl) ?_ _
          clear c1 c2 c3 q1 hH2
          go_wp2
          exact ⟨⟨t + 1, _, by omega, by go_num, rfl, hl.out, hHeld⟩, by simp [intOf]; omega⟩
        · have d4 : ¬ (t : Int) < k := by omega
          obtain rfl : t = k := by omega
          rw [List.take_of_length_le (by omega), hfin.out] at hZt
          have hZ : Z = strOfNums (Du.put ws ss ys) := by rw [← hZt, L.str_bs]
          subst hZ
          replace hB := Lib.hid (hB.out.trans (hE.mono hB.out.size))
          clear hE hZt
          go_wp2
          go_ret2
          exact ⟨rfl, hB.out⟩
end Go.Proofs.Ytpfejjkoemnmiaa
