/-
  ScanBack, walked.
-/
import Derived.Test.YtpbgniffjlcbhaaDoorScB
import Derived.Test.YtpbgniffjlcbhaaDoorScR
namespace Go.Proofs.YtpbgniffjlcbhaaDoor
open Go.RowKit
set_option linter.unusedVariables false
set_option linter.unusedSimpArgs false
set_option maxRecDepth 100000
theorem Bu.bs_app (s t : ByteArray) : L.bs (s ++ t) = L.bs s ++ L.bs t := by
  unfold L.bs
  simp
theorem Bu.join_split (l : List Sc.Tk) (k : Nat) (h : k < l.length) : ((Sc.join (l.take (k + 1))).length : Int) = ((Sc.join (l.take k)).length : Int) + ((Sc.dot (Sc.tk l k)).length : Int) + ((Sc.tk l k).t.length : Int) + 1 := by
  rw [Sc.join_succ h]
  simp only [List.length_append, List.length_cons, List.length_nil]
  omega
theorem Bu.place_tk (l : List Sc.Tk) (k : Nat) (h : k < l.length) : Sc.tk (Sc.place l 0) k = { Sc.tk l k with p := ((Sc.join (l.take k)).length : Int) } := by
  have := Sc.place_at l 0 k (Sc.tk l k) (Sc.tk_get h)
  have h2 := Sc.tk_get (ys := Sc.place l 0) (k := k) (by rw [Sc.place_len]; exact h)
  rw [h2] at this
  have := Option.some.inj this
  rw [this, Int.zero_add]
theorem Bu.errR {w : World} {e : Int} {v : Value} {w' : World} (h : Sc.LineR w (.error e) v w') : v = .tuple #[.slice none 0 0, .int .i64 e] := h
theorem Bu.okR {w : World} {l : List Sc.Tk} {v : Value} {w' : World} (h : Sc.LineR w (.ok l) v w') : ∃ A c, v = .tuple #[.slice A l.length c, .int .i64 0] ∧ Oz 34 w.heap.size A l.length c l w' := by
  obtain ⟨A, n, c, h1, h2⟩ := h
  have := h2.len
  subst this
  exact ⟨A, c, h1, h2⟩
theorem Bu.exec_neq_self {o : Oper} {a : Act} {w : World} (x y : Operand) (ho : o.op = .binOp .neq 34 x y 34) (s : Sc.Tk) (hs : L.Byt s.t) (hx : a.eval x = .agg (Bu.cs s)) (hy : a.eval y = .agg (Bu.cs s)) :
    (execOp a.eval o).run Tryd.prog w = .ok (.value (.bool false)) w := Bu.exec_neq x y ho s s hs hs false (by simp) hx hy
theorem Bu.range_below {w w' : World} {b o : Nat} {cs : List Value} (h : w.rangeAt b o cs) (hb : Below w.heap.size w w') : w'.rangeAt b o cs := fun j v hj => (hb.cell (Lib.lt_of_cell (h j v hj))).trans (h j v hj)
theorem Bu.range_new (w : World) (cs : Array Value) (t : TypeId) : (w.alloc (.cells cs t)).rangeAt w.heap.size 0 cs.toList := fun j v hj => by
  rw [Nat.zero_add]
  exact (Has.new cs t w).cell j v (by simpa using hj)
set_option maxHeartbeats 8000000 in
set_option maxRecDepth 100000 in
theorem walk_back_err (W : World) (s b : ByteArray) (hs : s.size ≤ maxLen) (hb : b.size ≤ maxLen) (hE : Sc.Errs W) (e : Int) (hl : Sc.line (L.bs (Bu.cut s)) = .error e) :
    Calls Tryd.prog 4 #[.string s, .string b] W fun e w' => e = .returned (.bool true) ∧ Below W.heap.size W w' := by
  have z1 := Bu.cut_size s
  have z2 := Bu.cut_size b
  have he : e = 20 ∨ e = 21 := Sc.line_errs hl
  have l1 := Lib.hid (show Sc.line (L.bs ⟨#[]⟩) = .ok [] from rfl)
  have l2 : Sc.line (L.bs ((⟨#[]⟩ : ByteArray) ++ (⟨#[59]⟩ : ByteArray) ++ Bu.cut b)) = .ok [] := by
    rw [Bu.bs_app, Bu.bs_app, show L.bs ⟨#[]⟩ = [] from rfl, show L.bs ⟨#[59]⟩ = [59] from rfl]
    exact Sc.run_semi _ _
  have z3 : ((⟨#[]⟩ : ByteArray) ++ (⟨#[59]⟩ : ByteArray) ++ Bu.cut b).size ≤ 101 := by rw [ByteArray.size_append, ByteArray.size_append, show (⟨#[]⟩ : ByteArray).size = 0 from rfl, show (⟨#[59]⟩ : ByteArray).size = 1 from rfl]; omega
  obtain ⟨Z, hZ⟩ : ∃ Z, (⟨#[]⟩ : ByteArray) ++ (⟨#[59]⟩ : ByteArray) ++ Bu.cut b = Z := ⟨_, rfl⟩
  rw [hZ] at l2 z3
  replace l2 := Lib.hid l2
  replace hZ := Lib.hid hZ
  go_enter Tryd.func4, Tryd.ntmps4
  go_wp2_with (fail)
  refine (Bu.shown_any W hE).mono ?_; rintro e' w1 ⟨rfl, hB⟩
  have hE1 := Lib.hid (hE.below hB)
  replace hB := Lib.hid hB
  go_wp2_with (fail)
  refine (Bu.few_any s hs _).mono ?_; rintro e' w2 ⟨rfl, rfl⟩
  go_wp2_with (fail)
  refine (Sc.line_any (Bu.cut s) (by omega) w1 hE1.out).mono ?_; rintro e' w2 ⟨v, rfl, hR, hB2⟩
  rw [hl] at hR
  obtain rfl := Bu.errR hR
  replace hE1 := Lib.hid (hE1.out.below hB2)
  replace hB := Lib.hid (hB.out.trans (hB2.mono hB.out.size))
  clear hR hB2
  go_wp2_with (fail)
  refine (Sc.join_any (Tr.empty _) (by simp) (by decide) (by decide)).mono ?_; rintro e' w3 ⟨rfl, hB2⟩
  replace hE1 := Lib.hid (hE1.out.below hB2)
  replace hB := Lib.hid (hB.out.trans (hB2.mono hB.out.size))
  clear hB2
  rw [show strOfNums (Sc.join []) = ⟨#[]⟩ from rfl]
  go_wp2_with (fail)
  refine (Sc.line_any ⟨#[]⟩ (by decide) _ hE1.out).mono ?_; rintro e' w4 ⟨v, rfl, hR, hB2⟩
  rw [l1.out] at hR
  obtain ⟨A, c, rfl, hO⟩ := Bu.okR hR
  replace hE1 := Lib.hid (hE1.out.below hB2)
  replace hB := Lib.hid (hB.out.trans (hB2.mono hB.out.size))
  clear hR hB2 hO l1
  go_wp2_with (fail)
  refine (Bu.few_any b hb _).mono ?_; rintro e' w5 ⟨rfl, rfl⟩
  go_wp2_with (fail)
  rw [hZ.out]
  refine (Sc.line_any Z (by omega) _ hE1.out).mono ?_; rintro e' w5 ⟨v, rfl, hR, hB2⟩
  rw [l2.out] at hR
  obtain ⟨A3, c3, rfl, hO⟩ := Bu.okR hR
  replace hB := Lib.hid (hB.out.trans (hB2.mono hB.out.size))
  clear hR hB2 hO l2 hE1
  rcases he with rfl | rfl
  · go_wp2
    go_ret
    exact ⟨rfl, hB.out⟩
  · go_wp2
    go_ret
    exact ⟨rfl, hB.out⟩
set_option maxHeartbeats 8000000 in
set_option maxRecDepth 100000 in
theorem walk_back_ok (W : World) (s b : ByteArray) (hs : s.size ≤ maxLen) (hb : b.size ≤ maxLen) (hE : Sc.Errs W) (l : List Sc.Tk) (hl : Sc.line (L.bs (Bu.cut s)) = .ok l) :
    Calls Tryd.prog 4 #[.string s, .string b] W fun e w' => e = .returned (.bool true) ∧ Below W.heap.size W w' := by
  have z1 := Bu.cut_size s
  have z2 := Bu.cut_size b
  obtain ⟨n1, n2⟩ := Sc.line_len hl
  rw [L.bs_len] at n1 n2
  have hok := Sc.line_ok hl
  have hbyt : ∀ y ∈ l, L.Byt y.t := fun y hy => Sc.ok_byt (hok y hy)
  have hjl := Sc.join_len (l := l) (B := 100) (fun t ht => by have := n2 t ht; omega)
  have hjl2 : (Sc.join l).length ≤ 10200 := by omega
  have hjb := Sc.join_byt hbyt
  have zj := strOfNums_size (Sc.join l)
  have l1 := Lib.hid (show Sc.line (L.bs (strOfNums (Sc.join l))) = .ok (Sc.place l 0) by rw [L.bs_str _ hjb]; exact Sc.line_join hok)
  have l2 : Sc.line (L.bs (strOfNums (Sc.join l) ++ (⟨#[59]⟩ : ByteArray) ++ Bu.cut b)) = .ok (Sc.place l 0) := by
    rw [Bu.bs_app, Bu.bs_app, L.bs_str _ hjb, List.append_assoc, show L.bs ⟨#[59]⟩ = [59] from rfl]
    exact Sc.line_semi hok _
  have z3 : (strOfNums (Sc.join l) ++ (⟨#[59]⟩ : ByteArray) ++ Bu.cut b).size ≤ 10301 := by rw [ByteArray.size_append, ByteArray.size_append, zj, show (⟨#[59]⟩ : ByteArray).size = 1 from rfl]; omega
  obtain ⟨Z, hZ⟩ : ∃ Z, strOfNums (Sc.join l) ++ (⟨#[59]⟩ : ByteArray) ++ Bu.cut b = Z := ⟨_, rfl⟩
  rw [hZ] at l2 z3
  replace l2 := Lib.hid l2
  replace hZ := Lib.hid hZ
  have hpl := Sc.place_len l 0
  have hbyt2 : ∀ k, k < l.length → L.Byt (Sc.tk l k).t := fun k hk => hbyt _ (Sc.tk_mem hk)
  have hjs : ∀ k, k < l.length → _ := fun k hk => Bu.join_split l k hk
  have hjt := fun k => Sc.join_take_le l k
  have hpk : ∀ k, k < l.length → _ := fun k hk => Bu.place_tk l k hk
  obtain ⟨n, hn⟩ : ∃ n, l.length = n := ⟨_, rfl⟩
  obtain ⟨pl, hpl2⟩ : ∃ pl, Sc.place l 0 = pl := ⟨_, rfl⟩
  rw [hpl2] at l1 l2 hpl hpk
  rw [hn] at n1 hpl hbyt2 hjs hpk
  replace hjs := Lib.hid hjs
  replace hpk := Lib.hid hpk
  replace hjt := Lib.hid hjt
  replace hbyt2 := Lib.hid hbyt2
  have nn : (n : Int) ≤ 100 := by omega
  clear hjb hok hjl n2
  go_enter Tryd.func4, Tryd.ntmps4
  go_wp2_with (fail)
  refine (Bu.shown_any W hE).mono ?_; rintro e' w1 ⟨rfl, hB⟩
  have hE1 := Lib.hid (hE.below hB)
  replace hB := Lib.hid hB
  go_wp2_with (fail)
  refine (Bu.few_any s hs _).mono ?_; rintro e' w2 ⟨rfl, rfl⟩
  go_wp2_with (fail)
  refine (Sc.line_any (Bu.cut s) (by omega) w1 hE1.out).mono ?_; rintro e' w2 ⟨v, rfl, hR, hB2⟩
  rw [hl] at hR
  obtain ⟨A, c, rfl, hO⟩ := Bu.okR hR
  rw [hn] at hO ⊢
  have hL := hO.tr
  replace hE1 := Lib.hid (hE1.out.below hB2)
  replace hB := Lib.hid (hB.out.trans (hB2.mono hB.out.size))
  clear hR hB2 hO hl
  replace hL := Lib.hid hL
  go_wp2_with (fail)
  refine (Sc.join_any hL.out hbyt (by omega) (by omega)).mono ?_; rintro e' w3 ⟨rfl, hB2⟩
  replace hL := Lib.hid (hL.out.below hB2)
  replace hE1 := Lib.hid (hE1.out.below hB2)
  replace hB := Lib.hid (hB.out.trans (hB2.mono hB.out.size))
  clear hB2 hbyt
  go_wp2_with (fail)
  refine (Sc.line_any (strOfNums (Sc.join l)) (by omega) _ hE1.out).mono ?_; rintro e' w4 ⟨v, rfl, hR, hB2⟩
  rw [l1.out] at hR
  obtain ⟨A2, c2, rfl, hO⟩ := Bu.okR hR
  rw [hpl] at hO ⊢
  have hM := Lib.hid hO.tr
  replace hL := Lib.hid (hL.out.below hB2)
  replace hE1 := Lib.hid (hE1.out.below hB2)
  replace hB := Lib.hid (hB.out.trans (hB2.mono hB.out.size))
  clear hR hB2 hO l1
  go_wp2_with (fail)
  refine (Bu.few_any b hb _).mono ?_; rintro e' w5 ⟨rfl, rfl⟩
  go_wp2_with (fail)
  rw [hZ.out]
  refine (Sc.line_any Z (by omega) _ hE1.out).mono ?_; rintro e' w5 ⟨v, rfl, hR, hB2⟩
  rw [l2.out] at hR
  obtain ⟨A3, c3, rfl, hO⟩ := Bu.okR hR
  rw [hpl] at hO ⊢
  have hK := Lib.hid hO.tr
  replace hL := Lib.hid (hL.out.below hB2)
  replace hM := Lib.hid (hM.out.below hB2)
  replace hB := Lib.hid (hB.out.trans (hB2.mono hB.out.size))
  clear hR hB2 hO l2 hE1 zj z3 hE hs hb z1 z2
  go_wp2
  have hjt0 : (Sc.join (l.take 0)).length = 0 := rfl
  go_loopw [13, 14] (fun a i wr => ∃ k : Nat, k ≤ n ∧ i = .int .i64 (k : Int) ∧ a = .int .i64 ((Sc.join (l.take k)).length : Int) ∧ Below w5.heap.size w5 wr) (fun _ i _ => n - (intOf i).toNat)
  case atStart => exact ⟨0, Nat.zero_le _, rfl, rfl, Below.refl _ _⟩
  case round =>
    obtain ⟨k, hk, rfl, rfl, hB2⟩ := hrel
    have hk0 : (0 : Int) ≤ (k : Int) := by omega
    by_cases hkn : k < n
    · have c1 : (k : Int) < (n : Int) := by omega
      have hL1 := hL.out.below hB2
      have hM1 := hM.out.below hB2
      have hK1 := hK.out.below hB2
      obtain ⟨b1, o1, rfl⟩ := hL1.place (by omega)
      obtain ⟨b2, o2, rfl⟩ := hM1.place (by omega)
      obtain ⟨b3, o3, rfl⟩ := hK1.place (by omega)
      have hR := hL1.range k hkn
      have rM := hM1.range k hkn
      have rK := hK1.range k hkn
      rw [hpk.out k hkn] at rM rK
      have hjk := hjs.out k hkn
      have hjm := hjt.out (k + 1)
      have tX := hbyt2.out k hkn
      have hsz := strOfNums_size (Sc.tk l k).t
      clear hL1 hM1 hK1
      obtain ⟨a, ha⟩ : ∃ a : Nat, (Sc.join (l.take k)).length = a := ⟨_, rfl⟩
      obtain ⟨a', ha'⟩ : ∃ a' : Nat, (Sc.join (l.take (k + 1))).length = a' := ⟨_, rfl⟩
      rw [ha, ha'] at hjk
      rw [ha'] at hjm
      rw [ha] at rM rK ⊢
      replace ha := Lib.hid ha
      replace ha' := Lib.hid ha'
      generalize Sc.tk l k = y at *
      obtain ⟨yk, yp, yt, yn⟩ := y
      simp only [] at rM rK tX hsz hjk
      replace hR := Lib.hid (show wr.rangeAt b1 (o1 + k * 4) [.int .i64 yk, .int .i64 yp, .string (strOfNums yt), .int .u32 yn] from hR)
      replace rM : wr.rangeAt b2 (o2 + k * 4) (Bu.cs ⟨yk, a, yt, yn⟩).toList := rM
      replace rK : wr.rangeAt b3 (o3 + k * 4) (Bu.cs ⟨yk, a, yt, yn⟩).toList := rK
      have hA := ((Kept.refl wr).alloc (Bu.cs ⟨yk, a, yt, yn⟩) 34).below
      have sM := Lib.hid (Bu.range_below rM hA)
      have sK := Lib.hid (Bu.range_below rK hA)
      have sT := Lib.hid (Bu.range_new wr (Bu.cs ⟨yk, a, yt, yn⟩) 34)
      have sB := Lib.hid (hB2.trans (hA.mono hB2.size))
      clear rM rK hA
      have hyt : ((strOfNums yt).size : Int) = (yt.length : Int) := by omega
      by_cases d4 : yk = 4
      · have hdl : (Sc.dot ⟨yk, yp, yt, yn⟩).length = 1 := by unfold Sc.dot; rw [if_pos d4]; rfl
        rw [hdl] at hjk
        subst d4
        clear hdl
        go_wp2_with (first
          | (with_reducible refine wpList_load_mid (op := ⟨some 88, _, _, _, _, _⟩) rfl 34 (.tmp 87) rfl b1 (o1 + k * 4) rfl [.int .i64 4, .int .i64 yp, .string (strOfNums yt), .int .u32 yn] _ hR.out Tryd.underlying34 rfl (by kernel_rfl) ?_)
          | fail)
        refine wp_region_held_drew (S := fun w' => w'.rangeAt b2 (o2 + k * 4) (Bu.cs ⟨4, a, yt, yn⟩).toList ∧ w'.rangeAt b3 (o3 + k * 4) (Bu.cs ⟨4, a, yt, yn⟩).toList ∧ w'.rangeAt wr.heap.size 0 (Bu.cs ⟨4, a, yt, yn⟩).toList ∧ Below w5.heap.size w5 w') (by kernel_rfl) ?_ (fun hHeld => ?_)
        · exact ⟨sM.out, sK.out, sT.out, sB.out.drew⟩
        refine wpAnyH_take (i := 0) (oi := { dst := some 102, op := Op.move (Operand.tmp 9), type := 22, pos := "law.go:59", after := #[], guard := none }) (v := ?_) rfl (by kernel_rfl) (by kernel_rfl) (by kernel_rfl) (fun _ _ _ h => h) (Or.inl ⟨rfl, ?_⟩) hHeld ?_
        rotate_left
        · (intro wz hSw; (try dsimp only at hSw); go_simp; try with_reducible rfl)
        try simp only [Act.put, List.setIfInBounds_toArray, List.set_cons_zero, List.set_cons_succ]
        refine wpAnyH_take (i := 1) (oi := { dst := some 103, op := Op.move (Operand.tmp 14), type := 3, pos := "law.go:59", after := #[], guard := none }) (v := ?_) rfl (by kernel_rfl) (by kernel_rfl) (by kernel_rfl) (fun _ _ _ h => h) (Or.inl ⟨rfl, ?_⟩) hHeld ?_
        rotate_left
        · (intro wz hSw; (try dsimp only at hSw); go_simp; try with_reducible rfl)
        try simp only [Act.put, List.setIfInBounds_toArray, List.set_cons_zero, List.set_cons_succ]
        refine wpAnyH_take (i := 2) (oi := { dst := some 104, op := Op.indexAddr 22 (Operand.tmp 102) (Operand.tmp 103), type := 0, pos := "law.go:59", after := #[{ on := 0, ground := Ground.data }, { on := 1, ground := Ground.data }], guard := none }) (v := ?_) rfl (by kernel_rfl) (by kernel_rfl) (by kernel_rfl) (fun _ _ _ h => h) (Or.inl ⟨rfl, ?_⟩) hHeld ?_
        rotate_left
        · (intro wz hSw; (try dsimp only at hSw); go_simp; try with_reducible rfl)
        try simp only [Act.put, List.setIfInBounds_toArray, List.set_cons_zero, List.set_cons_succ]
        refine wpAnyH_take (i := 3) (oi := { dst := some 105, op := Op.load 34 (Operand.tmp 104), type := 34, pos := "law.go:59", after := #[{ on := 2, ground := Ground.data }], guard := none }) (v := ?_) rfl (by kernel_rfl) (by kernel_rfl) (by kernel_rfl) (fun _ _ _ h => h) (Or.inl ⟨rfl, ?_⟩) hHeld ?_
        rotate_left
        · (intro wz hSw; refine Bu.exec_mid 34 (Operand.tmp 104) ?_ b2 (o2 + k * 4) ?_ (Bu.cs ⟨4, a, yt, yn⟩) hSw.1 Tryd.underlying34 rfl (Bu.info34 _) <;> rfl)
        try simp only [Act.put, List.setIfInBounds_toArray, List.set_cons_zero, List.set_cons_succ]
        refine wpAnyH_take (i := 4) (oi := { dst := some 106, op := Op.load 34 (Operand.tmp 15), type := 34, pos := "law.go:59", after := #[], guard := none }) (v := ?_) rfl (by kernel_rfl) (by kernel_rfl) (by kernel_rfl) (fun _ _ _ h => h) (Or.inl ⟨rfl, ?_⟩) hHeld ?_
        rotate_left
        · (intro wz hSw; refine Bu.exec_mid 34 (Operand.tmp 15) ?_ wr.heap.size 0 ?_ (Bu.cs ⟨4, a, yt, yn⟩) hSw.2.2.1 Tryd.underlying34 rfl (Bu.info34 _) <;> rfl)
        try simp only [Act.put, List.setIfInBounds_toArray, List.set_cons_zero, List.set_cons_succ]
        refine wpAnyH_take (i := 5) (oi := { dst := some 107, op := Op.binOp BinOp.neq 34 (Operand.tmp 105) (Operand.tmp 106) 34, type := 4, pos := "law.go:59", after := #[{ on := 3, ground := Ground.data }, { on := 4, ground := Ground.data }], guard := none }) (v := ?_) rfl (by kernel_rfl) (by kernel_rfl) (by kernel_rfl) (fun _ _ _ h => h) (Or.inl ⟨rfl, ?_⟩) hHeld ?_
        rotate_left
        · (intro wz hSw; refine Bu.exec_neq_self (o := { dst := some 107, op := Op.binOp BinOp.neq 34 (Operand.tmp 105) (Operand.tmp 106) 34, type := 4, pos := "law.go:59", after := #[{ on := 3, ground := Ground.data }, { on := 4, ground := Ground.data }], guard := none }) (Operand.tmp 105) (Operand.tmp 106) ?_ ⟨4, a, yt, yn⟩ tX ?_ ?_ <;> rfl)
        try simp only [Act.put, List.setIfInBounds_toArray, List.set_cons_zero, List.set_cons_succ]
        refine wpAnyH_take (i := 6) (oi := { dst := some 108, op := Op.move (Operand.tmp 107), type := 4, pos := "law.go:59", after := #[{ on := 5, ground := Ground.data }], guard := none }) (v := ?_) rfl (by kernel_rfl) (by kernel_rfl) (by kernel_rfl) (fun _ _ _ h => h) (Or.inl ⟨rfl, ?_⟩) hHeld ?_
        rotate_left
        · (intro wz hSw; (try dsimp only at hSw); go_simp; try with_reducible rfl)
        try simp only [Act.put, List.setIfInBounds_toArray, List.set_cons_zero, List.set_cons_succ]
        refine wpAnyH_take (i := 7) (oi := { dst := some 109, op := Op.move (Operand.tmp 11), type := 22, pos := "law.go:59", after := #[{ on := 6, ground := Ground.guard }], guard := some (6, false) }) (v := ?_) rfl (by kernel_rfl) (by kernel_rfl) (by kernel_rfl) (fun _ _ _ h => h) (Or.inl ⟨rfl, ?_⟩) hHeld ?_
        rotate_left
        · (intro wz hSw; (try dsimp only at hSw); go_simp; try with_reducible rfl)
        try simp only [Act.put, List.setIfInBounds_toArray, List.set_cons_zero, List.set_cons_succ]
        refine wpAnyH_take (i := 8) (oi := { dst := some 110, op := Op.move (Operand.tmp 14), type := 3, pos := "law.go:59", after := #[{ on := 6, ground := Ground.guard }], guard := some (6, false) }) (v := ?_) rfl (by kernel_rfl) (by kernel_rfl) (by kernel_rfl) (fun _ _ _ h => h) (Or.inl ⟨rfl, ?_⟩) hHeld ?_
        rotate_left
        · (intro wz hSw; (try dsimp only at hSw); go_simp; try with_reducible rfl)
        try simp only [Act.put, List.setIfInBounds_toArray, List.set_cons_zero, List.set_cons_succ]
        refine wpAnyH_take (i := 9) (oi := { dst := some 111, op := Op.indexAddr 22 (Operand.tmp 109) (Operand.tmp 110), type := 0, pos := "law.go:59", after := #[{ on := 7, ground := Ground.data }, { on := 8, ground := Ground.data }, { on := 6, ground := Ground.guard }], guard := some (6, false) }) (v := ?_) rfl (by kernel_rfl) (by kernel_rfl) (by kernel_rfl) (fun _ _ _ h => h) (Or.inl ⟨rfl, ?_⟩) hHeld ?_
        rotate_left
        · (intro wz hSw; (try dsimp only at hSw); go_simp; try with_reducible rfl)
        try simp only [Act.put, List.setIfInBounds_toArray, List.set_cons_zero, List.set_cons_succ]
        refine wpAnyH_take (i := 10) (oi := { dst := some 112, op := Op.load 34 (Operand.tmp 111), type := 34, pos := "law.go:59", after := #[{ on := 9, ground := Ground.data }, { on := 6, ground := Ground.guard }], guard := some (6, false) }) (v := ?_) rfl (by kernel_rfl) (by kernel_rfl) (by kernel_rfl) (fun _ _ _ h => h) (Or.inl ⟨rfl, ?_⟩) hHeld ?_
        rotate_left
        · (intro wz hSw; refine Bu.exec_mid 34 (Operand.tmp 111) ?_ b3 (o3 + k * 4) ?_ (Bu.cs ⟨4, a, yt, yn⟩) hSw.2.1 Tryd.underlying34 rfl (Bu.info34 _) <;> rfl)
        try simp only [Act.put, List.setIfInBounds_toArray, List.set_cons_zero, List.set_cons_succ]
        refine wpAnyH_take (i := 11) (oi := { dst := some 113, op := Op.load 34 (Operand.tmp 15), type := 34, pos := "law.go:59", after := #[{ on := 6, ground := Ground.guard }], guard := some (6, false) }) (v := ?_) rfl (by kernel_rfl) (by kernel_rfl) (by kernel_rfl) (fun _ _ _ h => h) (Or.inl ⟨rfl, ?_⟩) hHeld ?_
        rotate_left
        · (intro wz hSw; refine Bu.exec_mid 34 (Operand.tmp 15) ?_ wr.heap.size 0 ?_ (Bu.cs ⟨4, a, yt, yn⟩) hSw.2.2.1 Tryd.underlying34 rfl (Bu.info34 _) <;> rfl)
        try simp only [Act.put, List.setIfInBounds_toArray, List.set_cons_zero, List.set_cons_succ]
        refine wpAnyH_take (i := 12) (oi := { dst := some 114, op := Op.binOp BinOp.neq 34 (Operand.tmp 112) (Operand.tmp 113) 34, type := 4, pos := "law.go:59", after := #[{ on := 10, ground := Ground.data }, { on := 11, ground := Ground.data }, { on := 6, ground := Ground.guard }], guard := some (6, false) }) (v := ?_) rfl (by kernel_rfl) (by kernel_rfl) (by kernel_rfl) (fun _ _ _ h => h) (Or.inl ⟨rfl, ?_⟩) hHeld ?_
        rotate_left
        · (intro wz hSw; refine Bu.exec_neq_self (o := { dst := some 114, op := Op.binOp BinOp.neq 34 (Operand.tmp 112) (Operand.tmp 113) 34, type := 4, pos := "law.go:59", after := #[{ on := 10, ground := Ground.data }, { on := 11, ground := Ground.data }, { on := 6, ground := Ground.guard }], guard := some (6, false) }) (Operand.tmp 112) (Operand.tmp 113) ?_ ⟨4, a, yt, yn⟩ tX ?_ ?_ <;> rfl)
        try simp only [Act.put, List.setIfInBounds_toArray, List.set_cons_zero, List.set_cons_succ]
        refine wpAnyH_take (i := 13) (oi := { dst := some 115, op := Op.pick (Operand.tmp 108) (Operand.const (Value.bool true)) (Operand.tmp 114), type := 4, pos := "law.go:59", after := #[{ on := 6, ground := Ground.data }, { on := 12, ground := Ground.data }], guard := none }) (v := ?_) rfl (by kernel_rfl) (by kernel_rfl) (by kernel_rfl) (fun _ _ _ h => h) (Or.inl ⟨rfl, ?_⟩) hHeld ?_
        rotate_left
        · (intro wz hSw; (try dsimp only at hSw); go_simp; try with_reducible rfl)
        try simp only [Act.put, List.setIfInBounds_toArray, List.set_cons_zero, List.set_cons_succ]
        refine wpAnyH_done (by kernel_rfl) ?_ _
        obtain ⟨_, _, _, hB3⟩ := hHeld
        replace hB3 := Lib.hid hB3
        clear sM sK sT sB
        go_wp2
        go_roundw
        case rel => exact ⟨k + 1, by omega, by go_num, by rw [ha'.out]; exact congrArg (Value.int .i64) (by omega), hB3.out⟩
        case measure => simp [intOf]; omega
      · have hdl : (Sc.dot ⟨yk, yp, yt, yn⟩).length = 0 := by unfold Sc.dot; rw [if_neg d4]; rfl
        rw [hdl] at hjk
        have d5 : (yk == 4) = false := by simpa using d4
        clear hdl
        go_wp2_with (first
          | (with_reducible refine wpList_load_mid (op := ⟨some 88, _, _, _, _, _⟩) rfl 34 (.tmp 87) rfl b1 (o1 + k * 4) rfl [.int .i64 yk, .int .i64 yp, .string (strOfNums yt), .int .u32 yn] _ hR.out Tryd.underlying34 rfl (by kernel_rfl) ?_)
          | fail)
        refine wp_region_held_drew (S := fun w' => w'.rangeAt b2 (o2 + k * 4) (Bu.cs ⟨yk, a, yt, yn⟩).toList ∧ w'.rangeAt b3 (o3 + k * 4) (Bu.cs ⟨yk, a, yt, yn⟩).toList ∧ w'.rangeAt wr.heap.size 0 (Bu.cs ⟨yk, a, yt, yn⟩).toList ∧ Below w5.heap.size w5 w') (by kernel_rfl) ?_ (fun hHeld => ?_)
        · exact ⟨sM.out, sK.out, sT.out, sB.out.drew⟩
        refine wpAnyH_take (i := 0) (oi := { dst := some 102, op := Op.move (Operand.tmp 9), type := 22, pos := "law.go:59", after := #[], guard := none }) (v := ?_) rfl (by kernel_rfl) (by kernel_rfl) (by kernel_rfl) (fun _ _ _ h => h) (Or.inl ⟨rfl, ?_⟩) hHeld ?_
        rotate_left
        · (intro wz hSw; (try dsimp only at hSw); go_simp; try with_reducible rfl)
        try simp only [Act.put, List.setIfInBounds_toArray, List.set_cons_zero, List.set_cons_succ]
        refine wpAnyH_take (i := 1) (oi := { dst := some 103, op := Op.move (Operand.tmp 14), type := 3, pos := "law.go:59", after := #[], guard := none }) (v := ?_) rfl (by kernel_rfl) (by kernel_rfl) (by kernel_rfl) (fun _ _ _ h => h) (Or.inl ⟨rfl, ?_⟩) hHeld ?_
        rotate_left
        · (intro wz hSw; (try dsimp only at hSw); go_simp; try with_reducible rfl)
        try simp only [Act.put, List.setIfInBounds_toArray, List.set_cons_zero, List.set_cons_succ]
        refine wpAnyH_take (i := 2) (oi := { dst := some 104, op := Op.indexAddr 22 (Operand.tmp 102) (Operand.tmp 103), type := 0, pos := "law.go:59", after := #[{ on := 0, ground := Ground.data }, { on := 1, ground := Ground.data }], guard := none }) (v := ?_) rfl (by kernel_rfl) (by kernel_rfl) (by kernel_rfl) (fun _ _ _ h => h) (Or.inl ⟨rfl, ?_⟩) hHeld ?_
        rotate_left
        · (intro wz hSw; (try dsimp only at hSw); go_simp; try with_reducible rfl)
        try simp only [Act.put, List.setIfInBounds_toArray, List.set_cons_zero, List.set_cons_succ]
        refine wpAnyH_take (i := 3) (oi := { dst := some 105, op := Op.load 34 (Operand.tmp 104), type := 34, pos := "law.go:59", after := #[{ on := 2, ground := Ground.data }], guard := none }) (v := ?_) rfl (by kernel_rfl) (by kernel_rfl) (by kernel_rfl) (fun _ _ _ h => h) (Or.inl ⟨rfl, ?_⟩) hHeld ?_
        rotate_left
        · (intro wz hSw; refine Bu.exec_mid 34 (Operand.tmp 104) ?_ b2 (o2 + k * 4) ?_ (Bu.cs ⟨yk, a, yt, yn⟩) hSw.1 Tryd.underlying34 rfl (Bu.info34 _) <;> rfl)
        try simp only [Act.put, List.setIfInBounds_toArray, List.set_cons_zero, List.set_cons_succ]
        refine wpAnyH_take (i := 4) (oi := { dst := some 106, op := Op.load 34 (Operand.tmp 15), type := 34, pos := "law.go:59", after := #[], guard := none }) (v := ?_) rfl (by kernel_rfl) (by kernel_rfl) (by kernel_rfl) (fun _ _ _ h => h) (Or.inl ⟨rfl, ?_⟩) hHeld ?_
        rotate_left
        · (intro wz hSw; refine Bu.exec_mid 34 (Operand.tmp 15) ?_ wr.heap.size 0 ?_ (Bu.cs ⟨yk, a, yt, yn⟩) hSw.2.2.1 Tryd.underlying34 rfl (Bu.info34 _) <;> rfl)
        try simp only [Act.put, List.setIfInBounds_toArray, List.set_cons_zero, List.set_cons_succ]
        refine wpAnyH_take (i := 5) (oi := { dst := some 107, op := Op.binOp BinOp.neq 34 (Operand.tmp 105) (Operand.tmp 106) 34, type := 4, pos := "law.go:59", after := #[{ on := 3, ground := Ground.data }, { on := 4, ground := Ground.data }], guard := none }) (v := ?_) rfl (by kernel_rfl) (by kernel_rfl) (by kernel_rfl) (fun _ _ _ h => h) (Or.inl ⟨rfl, ?_⟩) hHeld ?_
        rotate_left
        · (intro wz hSw; refine Bu.exec_neq_self (o := { dst := some 107, op := Op.binOp BinOp.neq 34 (Operand.tmp 105) (Operand.tmp 106) 34, type := 4, pos := "law.go:59", after := #[{ on := 3, ground := Ground.data }, { on := 4, ground := Ground.data }], guard := none }) (Operand.tmp 105) (Operand.tmp 106) ?_ ⟨yk, a, yt, yn⟩ tX ?_ ?_ <;> rfl)
        try simp only [Act.put, List.setIfInBounds_toArray, List.set_cons_zero, List.set_cons_succ]
        refine wpAnyH_take (i := 6) (oi := { dst := some 108, op := Op.move (Operand.tmp 107), type := 4, pos := "law.go:59", after := #[{ on := 5, ground := Ground.data }], guard := none }) (v := ?_) rfl (by kernel_rfl) (by kernel_rfl) (by kernel_rfl) (fun _ _ _ h => h) (Or.inl ⟨rfl, ?_⟩) hHeld ?_
        rotate_left
        · (intro wz hSw; (try dsimp only at hSw); go_simp; try with_reducible rfl)
        try simp only [Act.put, List.setIfInBounds_toArray, List.set_cons_zero, List.set_cons_succ]
        refine wpAnyH_take (i := 7) (oi := { dst := some 109, op := Op.move (Operand.tmp 11), type := 22, pos := "law.go:59", after := #[{ on := 6, ground := Ground.guard }], guard := some (6, false) }) (v := ?_) rfl (by kernel_rfl) (by kernel_rfl) (by kernel_rfl) (fun _ _ _ h => h) (Or.inl ⟨rfl, ?_⟩) hHeld ?_
        rotate_left
        · (intro wz hSw; (try dsimp only at hSw); go_simp; try with_reducible rfl)
        try simp only [Act.put, List.setIfInBounds_toArray, List.set_cons_zero, List.set_cons_succ]
        refine wpAnyH_take (i := 8) (oi := { dst := some 110, op := Op.move (Operand.tmp 14), type := 3, pos := "law.go:59", after := #[{ on := 6, ground := Ground.guard }], guard := some (6, false) }) (v := ?_) rfl (by kernel_rfl) (by kernel_rfl) (by kernel_rfl) (fun _ _ _ h => h) (Or.inl ⟨rfl, ?_⟩) hHeld ?_
        rotate_left
        · (intro wz hSw; (try dsimp only at hSw); go_simp; try with_reducible rfl)
        try simp only [Act.put, List.setIfInBounds_toArray, List.set_cons_zero, List.set_cons_succ]
        refine wpAnyH_take (i := 9) (oi := { dst := some 111, op := Op.indexAddr 22 (Operand.tmp 109) (Operand.tmp 110), type := 0, pos := "law.go:59", after := #[{ on := 7, ground := Ground.data }, { on := 8, ground := Ground.data }, { on := 6, ground := Ground.guard }], guard := some (6, false) }) (v := ?_) rfl (by kernel_rfl) (by kernel_rfl) (by kernel_rfl) (fun _ _ _ h => h) (Or.inl ⟨rfl, ?_⟩) hHeld ?_
        rotate_left
        · (intro wz hSw; (try dsimp only at hSw); go_simp; try with_reducible rfl)
        try simp only [Act.put, List.setIfInBounds_toArray, List.set_cons_zero, List.set_cons_succ]
        refine wpAnyH_take (i := 10) (oi := { dst := some 112, op := Op.load 34 (Operand.tmp 111), type := 34, pos := "law.go:59", after := #[{ on := 9, ground := Ground.data }, { on := 6, ground := Ground.guard }], guard := some (6, false) }) (v := ?_) rfl (by kernel_rfl) (by kernel_rfl) (by kernel_rfl) (fun _ _ _ h => h) (Or.inl ⟨rfl, ?_⟩) hHeld ?_
        rotate_left
        · (intro wz hSw; refine Bu.exec_mid 34 (Operand.tmp 111) ?_ b3 (o3 + k * 4) ?_ (Bu.cs ⟨yk, a, yt, yn⟩) hSw.2.1 Tryd.underlying34 rfl (Bu.info34 _) <;> rfl)
        try simp only [Act.put, List.setIfInBounds_toArray, List.set_cons_zero, List.set_cons_succ]
        refine wpAnyH_take (i := 11) (oi := { dst := some 113, op := Op.load 34 (Operand.tmp 15), type := 34, pos := "law.go:59", after := #[{ on := 6, ground := Ground.guard }], guard := some (6, false) }) (v := ?_) rfl (by kernel_rfl) (by kernel_rfl) (by kernel_rfl) (fun _ _ _ h => h) (Or.inl ⟨rfl, ?_⟩) hHeld ?_
        rotate_left
        · (intro wz hSw; refine Bu.exec_mid 34 (Operand.tmp 15) ?_ wr.heap.size 0 ?_ (Bu.cs ⟨yk, a, yt, yn⟩) hSw.2.2.1 Tryd.underlying34 rfl (Bu.info34 _) <;> rfl)
        try simp only [Act.put, List.setIfInBounds_toArray, List.set_cons_zero, List.set_cons_succ]
        refine wpAnyH_take (i := 12) (oi := { dst := some 114, op := Op.binOp BinOp.neq 34 (Operand.tmp 112) (Operand.tmp 113) 34, type := 4, pos := "law.go:59", after := #[{ on := 10, ground := Ground.data }, { on := 11, ground := Ground.data }, { on := 6, ground := Ground.guard }], guard := some (6, false) }) (v := ?_) rfl (by kernel_rfl) (by kernel_rfl) (by kernel_rfl) (fun _ _ _ h => h) (Or.inl ⟨rfl, ?_⟩) hHeld ?_
        rotate_left
        · (intro wz hSw; refine Bu.exec_neq_self (o := { dst := some 114, op := Op.binOp BinOp.neq 34 (Operand.tmp 112) (Operand.tmp 113) 34, type := 4, pos := "law.go:59", after := #[{ on := 10, ground := Ground.data }, { on := 11, ground := Ground.data }, { on := 6, ground := Ground.guard }], guard := some (6, false) }) (Operand.tmp 112) (Operand.tmp 113) ?_ ⟨yk, a, yt, yn⟩ tX ?_ ?_ <;> rfl)
        try simp only [Act.put, List.setIfInBounds_toArray, List.set_cons_zero, List.set_cons_succ]
        refine wpAnyH_take (i := 13) (oi := { dst := some 115, op := Op.pick (Operand.tmp 108) (Operand.const (Value.bool true)) (Operand.tmp 114), type := 4, pos := "law.go:59", after := #[{ on := 6, ground := Ground.data }, { on := 12, ground := Ground.data }], guard := none }) (v := ?_) rfl (by kernel_rfl) (by kernel_rfl) (by kernel_rfl) (fun _ _ _ h => h) (Or.inl ⟨rfl, ?_⟩) hHeld ?_
        rotate_left
        · (intro wz hSw; (try dsimp only at hSw); go_simp; try with_reducible rfl)
        try simp only [Act.put, List.setIfInBounds_toArray, List.set_cons_zero, List.set_cons_succ]
        refine wpAnyH_done (by kernel_rfl) ?_ _
        obtain ⟨_, _, _, hB3⟩ := hHeld
        replace hB3 := Lib.hid hB3
        clear sM sK sT sB
        go_wp2
        go_roundw
        case rel => exact ⟨k + 1, by omega, by go_num, by rw [ha'.out]; exact congrArg (Value.int .i64) (by omega), hB3.out⟩
        case measure => simp [intOf]; omega
    · obtain rfl : k = n := by omega
      replace hB := Lib.hid (hB.out.trans (hB2.mono hB.out.size))
      clear hB2
      go_wp2
      go_ret
      exact ⟨rfl, hB.out⟩
theorem walk_back (W : World) (s b : ByteArray) (hs : s.size ≤ maxLen) (hb : b.size ≤ maxLen) (hE : Sc.Errs W) :
    Calls Tryd.prog 4 #[.string s, .string b] W fun e w' => e = .returned (.bool true) ∧ Below W.heap.size W w' := by
  cases hl : Sc.line (L.bs (Bu.cut s)) with
  | error e => exact walk_back_err W s b hs hb hE e hl
  | ok l => exact walk_back_ok W s b hs hb hE l hl
end Go.Proofs.YtpbgniffjlcbhaaDoor
