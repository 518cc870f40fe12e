/-
  Tokens held against each other; the document's Join; a law's beginnings of lines and of rows.
-/
import Derived.Test.YtpbgniffjlcbhaaDoorSc7
import Derived.Test.YtpbgniffjlcbhaaDoorSc9
namespace Go.Proofs.YtpbgniffjlcbhaaDoor
open Go.RowKit
set_option linter.unusedVariables false
set_option linter.unusedSimpArgs false
set_option maxRecDepth 100000
section
theorem Bu.exec_mid {P : Program} {o : Oper} {a : Act} {w : World} (ty : TypeId) (x : Operand) (ho : o.op = .load ty x) (b off : Nat) (hx : a.eval x = .pointer (some ⟨b, off, none⟩)) (cs : Array Value) {d : TypeDesc} (hc : w.rangeAt b off cs.toList)
    (hu : P.underlying ty = some d) (hd : d.isRow = true) (hi : (P.info? ty).map (·.size) = some cs.size) : (execOp a.eval o).run P w = .ok (.value (.agg cs)) w := by
  have := run_loadVar_mid (P := P) w b off ty cs.toList d hc hu hd (by simpa using hi)
  unfold execOp
  simp only [ho, hx, Instr.loadAt, Instr.sureAddr, Sem.run_bind, Sem.run_pure, Result.andThen_ok, this, Array.toArray_toList]
theorem Bu.part_i (xs : Array Value) (j : Nat) (x : Int) (w : World) (hj : xs[j]? = some (.int .i64 x)) : (part 3 xs j).run Tryd.prog w = .ok (.int .i64 x) w := by
  have ha := run_isAgg Tryd.underlying3 w
  simp [part, Sem.run_bind, run_sizeOf (P := Tryd.prog) (e := 3) (m := 1) (by kernel_rfl), ha, TypeDesc.isRow, hj]
theorem Bu.part_s (xs : Array Value) (j : Nat) (x : ByteArray) (w : World) (hj : xs[j]? = some (.string x)) : (part 9 xs j).run Tryd.prog w = .ok (.string x) w := by
  have ha := run_isAgg Tryd.underlying9 w
  simp [part, Sem.run_bind, run_sizeOf (P := Tryd.prog) (e := 9) (m := 1) (by kernel_rfl), ha, TypeDesc.isRow, hj]
theorem Bu.part_u (xs : Array Value) (j : Nat) (x : Int) (w : World) (hj : xs[j]? = some (.int .u32 x)) : (part 32 xs j).run Tryd.prog w = .ok (.int .u32 x) w := by
  have ha := run_isAgg Tryd.underlying32 w
  simp [part, Sem.run_bind, run_sizeOf (P := Tryd.prog) (e := 32) (m := 1) (by kernel_rfl), ha, TypeDesc.isRow, hj]
def Bu.cs (x : Sc.Tk) : Array Value := #[.int .i64 x.k, .int .i64 x.p, .string (strOfNums x.t), .int .u32 x.n]
theorem Bu.depth : Op.maxDepth = 9997 + 3 := rfl
theorem Bu.texts {x y : List Int} (hx : L.Byt x) (hy : L.Byt y) : ((strOfNums x).toList == (strOfNums y).toList) = decide (x = y) := by
  rw [Sc.list_eq, L.bs_str _ hx, L.bs_str _ hy]
theorem Bu.eq_tok (x y : Sc.Tk) (hx : L.Byt x.t) (hy : L.Byt y.t) (w : World) : (Op.equal 34 (.agg (Bu.cs x)) (.agg (Bu.cs y))).run Tryd.prog w = .ok (decide (x = y)) w := by
  unfold Op.equal
  rw [Bu.depth]
  rw [run_equalIn_struct w _ 34 _ _ Tryd.underlying34 (by kernel_rfl)]
  simp only [Program.fieldsOf, Tryd.underlying34]
  simp only [Op.eqFields]
  rw [if_pos (by decide), if_pos (by decide), if_pos (by decide), if_pos (by decide)]
  have t := Bu.texts hx hy
  have p0 := Bu.part_i (Bu.cs x) 0 x.k w rfl
  have q0 := Bu.part_i (Bu.cs y) 0 y.k w rfl
  have p1 := Bu.part_i (Bu.cs x) 1 x.p w rfl
  have q1 := Bu.part_i (Bu.cs y) 1 y.p w rfl
  have p2 := Bu.part_s (Bu.cs x) 2 _ w rfl
  have q2 := Bu.part_s (Bu.cs y) 2 _ w rfl
  have p3 := Bu.part_u (Bu.cs x) 3 x.n w rfl
  have q3 := Bu.part_u (Bu.cs y) 3 y.n w rfl
  have e0 := fun d a b => run_equalIn_int w d 3 .i64 .i64 a b Tryd.underlying3
  have e2 := fun d a b => run_equalIn_string w d 9 a b Tryd.underlying9
  have e3 := fun d a b => run_equalIn_int w d 32 .u32 .u32 a b Tryd.underlying32
  generalize Bu.cs x = cx at *
  generalize Bu.cs y = cy at *
  obtain ⟨xk, xp, xt, xn⟩ := x
  obtain ⟨yk, yp, yt, yn⟩ := y
  simp only [Sc.Tk.mk.injEq] at *
  by_cases h1 : xk = yk
  · by_cases h2 : xp = yp
    · by_cases h3 : xt = yt
      · by_cases h4 : xn = yn
        · simp [p0, q0, p1, q1, p2, q2, p3, q3, e0, e2, e3, t, h1, h2, h3, h4]
        · simp [p0, q0, p1, q1, p2, q2, p3, q3, e0, e2, e3, t, h1, h2, h3, h4]
      · simp [p0, q0, p1, q1, p2, q2, p3, q3, e0, e2, e3, t, h1, h2, h3]
    · simp [p0, q0, p1, q1, p2, q2, p3, q3, e0, e2, e3, t, h1, h2]
  · simp [p0, q0, p1, q1, p2, q2, p3, q3, e0, e2, e3, t, h1]
theorem Bu.exec_neq {o : Oper} {a : Act} {w : World} (x y : Operand) (ho : o.op = .binOp .neq 34 x y 34) (s t : Sc.Tk) (hs : L.Byt s.t) (ht : L.Byt t.t) (b : Bool) (hb : b = !(decide (s = t))) (hx : a.eval x = .agg (Bu.cs s)) (hy : a.eval y = .agg (Bu.cs t)) :
    (execOp a.eval o).run Tryd.prog w = .ok (.value (.bool b)) w := by
  have e : binOp BinOp.neq 34 (.agg (Bu.cs s)) (.agg (Bu.cs t)) = (do pure (.bool (!(← Op.equal 34 (.agg (Bu.cs s)) (.agg (Bu.cs t)))))) := by simp only [binOp]
  unfold execOp
  simp only [ho, hx, hy, Sem.run_bind]
  rw [run_eqGuard_agg w BinOp.neq 34 x y (Bu.cs s) (Bu.cs t) (by kernel_rfl)]
  simp only [Result.andThen_ok, e, Sem.run_bind, Bu.eq_tok s t hs ht, Sem.run_pure]
  rw [hb]
end
theorem Bu.info34 (x : Sc.Tk) : (Tryd.prog.info? 34).map (·.size) = some (Bu.cs x).size := by
  show (Tryd.prog.info? 34).map (·.size) = some 4
  kernel_rfl
theorem Bu.take_eq {xs ys : List Sc.Tk} {k : Nat} (hx : k < xs.length) (hy : k < ys.length) (h : xs.take k = ys.take k) (e : Sc.tk xs k = Sc.tk ys k) : xs.take (k + 1) = ys.take (k + 1) := by
  rw [List.take_add_one, List.take_add_one, Sc.tk_get hx, Sc.tk_get hy, h, e]
theorem Bu.take_ne {xs ys : List Sc.Tk} {k : Nat} (hx : k < xs.length) (hy : k < ys.length) (e : Sc.tk xs k ≠ Sc.tk ys k) : xs ≠ ys := fun q => e (by rw [q])
set_option maxHeartbeats 4000000 in
set_option maxRecDepth 100000 in
theorem Bu.same_any {w : World} {A B : Option Addr} {n c m d : Nat} {xs ys : List Sc.Tk} (hX : Tr w A n c xs) (hY : Tr w B m d ys) (bx : ∀ y ∈ xs, L.Byt y.t) (bY : ∀ y ∈ ys, L.Byt y.t) :
    Calls Tryd.prog 12 #[.slice A n c, .slice B m d] w fun e w' => e = .returned (.bool (decide (xs = ys))) ∧ Below w.heap.size w w' := by
  have hlx := hX.len
  have hly := hY.len
  have hmx := hX.max
  have hle := hX.le
  unfold maxLen at hmx
  obtain ⟨R, hR⟩ : ∃ R, R = decide (xs = ys) := ⟨_, rfl⟩
  rw [← hR]
  by_cases hnm : n = m
  · subst hnm
    have HX := Lib.hid hX
    have HY := Lib.hid hY
    have hR2 := Lib.hid hR
    have hB0 := Lib.hid (Below.refl w.heap.size w)
    clear hX hY hR
    go_enter Tryd.func12, Tryd.ntmps12
    go_wp2
    go_loopw [5] (fun i wr => ∃ j : Nat, j ≤ n ∧ i = .int .i64 (j : Int) ∧ Hid (xs.take j = ys.take j) ∧ Below w.heap.size w wr) (fun i _ => n - (intOf i).toNat)
    case atStart => exact ⟨0, Nat.zero_le _, rfl, Lib.hid rfl, hB0.out⟩
    case round =>
      obtain ⟨j, hj, rfl, hT, hB⟩ := hrel
      clear hB0
      have hj0 : (0 : Int) ≤ (j : Int) := by omega
      by_cases hjn : j < n
      · have c1 : (j : Int) < (n : Int) := by omega
        have hX := HX.out.below hB
        have hY := HY.out.below hB
        obtain ⟨b, off, rfl⟩ := hX.place (by omega)
        obtain ⟨b2, off2, rfl⟩ := hY.place (by omega)
        have rX := hX.range j hjn
        have rY := hY.range j hjn
        have tX := bx _ (Sc.tk_mem (ys := xs) (k := j) (by omega))
        have tY := bY _ (Sc.tk_mem (ys := ys) (k := j) (by omega))
        have hx1 := Lib.hid (fun e => Bu.take_eq (xs := xs) (ys := ys) (k := j) (by omega) (by omega) hT.out e)
        have hx2 := Lib.hid (fun e => Bu.take_ne (xs := xs) (ys := ys) (k := j) (by omega) (by omega) e)
        replace rX : wr.rangeAt b (off + j * 4) (Bu.cs (Sc.tk xs j)).toList := rX
        replace rY : wr.rangeAt b2 (off2 + j * 4) (Bu.cs (Sc.tk ys j)).toList := rY
        generalize Sc.tk xs j = x at *
        generalize Sc.tk ys j = y at *
        clear hX hY hT
        by_cases hxy : x = y
        · have hz := Lib.hid (show (false : Bool) = !(decide (x = y)) by rw [decide_eq_true hxy]; rfl)
          replace hxy := Lib.hid hxy
          go_wp2
          refine wp_region_held_drew (S := fun w' => w'.rangeAt b (off + j * 4) (Bu.cs x).toList ∧ w'.rangeAt b2 (off2 + j * 4) (Bu.cs y).toList ∧ Below w.heap.size w w') (by kernel_rfl) ?_ (fun hHeld => ?_)
          · exact ⟨rX, rY, hB.drew⟩
          refine wpAnyH_take (i := 0) (oi := { dst := some 17, op := Op.move (Operand.tmp 0), type := 22, pos := "ref.go:121", after := #[], guard := none }) (v := ?_) rfl (by kernel_rfl) (by kernel_rfl) (by kernel_rfl) (fun _ _ _ h => h) (Or.inl ⟨rfl, ?_⟩) hHeld ?_
          rotate_left
          · (intro wz hSw; (try dsimp only at hSw); go_simp; try with_reducible rfl)
          try simp only [Act.put, List.setIfInBounds_toArray, List.set_cons_zero, List.set_cons_succ]
          refine wpAnyH_take (i := 1) (oi := { dst := some 18, op := Op.move (Operand.tmp 5), type := 3, pos := "ref.go:121", after := #[], guard := none }) (v := ?_) rfl (by kernel_rfl) (by kernel_rfl) (by kernel_rfl) (fun _ _ _ h => h) (Or.inl ⟨rfl, ?_⟩) hHeld ?_
          rotate_left
          · (intro wz hSw; (try dsimp only at hSw); go_simp; try with_reducible rfl)
          try simp only [Act.put, List.setIfInBounds_toArray, List.set_cons_zero, List.set_cons_succ]
          refine wpAnyH_take (i := 2) (oi := { dst := some 19, op := Op.indexAddr 22 (Operand.tmp 17) (Operand.tmp 18), type := 0, pos := "ref.go:121", after := #[{ on := 0, ground := Ground.data }, { on := 1, ground := Ground.data }], guard := none }) (v := ?_) rfl (by kernel_rfl) (by kernel_rfl) (by kernel_rfl) (fun _ _ _ h => h) (Or.inl ⟨rfl, ?_⟩) hHeld ?_
          rotate_left
          · (intro wz hSw; (try dsimp only at hSw); go_simp; try with_reducible rfl)
          try simp only [Act.put, List.setIfInBounds_toArray, List.set_cons_zero, List.set_cons_succ]
          refine wpAnyH_take (i := 3) (oi := { dst := some 20, op := Op.load 34 (Operand.tmp 19), type := 34, pos := "ref.go:121", after := #[{ on := 2, ground := Ground.data }], guard := none }) (v := ?_) rfl (by kernel_rfl) (by kernel_rfl) (by kernel_rfl) (fun _ _ _ h => h) (Or.inl ⟨rfl, ?_⟩) hHeld ?_
          rotate_left
          · (intro wz hSw; refine Bu.exec_mid 34 (Operand.tmp 19) ?_ b (off + j * 4) ?_ (Bu.cs x) hSw.1 Tryd.underlying34 rfl (Bu.info34 _) <;> rfl)
          try simp only [Act.put, List.setIfInBounds_toArray, List.set_cons_zero, List.set_cons_succ]
          refine wpAnyH_take (i := 4) (oi := { dst := some 21, op := Op.move (Operand.tmp 1), type := 22, pos := "ref.go:121", after := #[], guard := none }) (v := ?_) rfl (by kernel_rfl) (by kernel_rfl) (by kernel_rfl) (fun _ _ _ h => h) (Or.inl ⟨rfl, ?_⟩) hHeld ?_
          rotate_left
          · (intro wz hSw; (try dsimp only at hSw); go_simp; try with_reducible rfl)
          try simp only [Act.put, List.setIfInBounds_toArray, List.set_cons_zero, List.set_cons_succ]
          refine wpAnyH_take (i := 5) (oi := { dst := some 22, op := Op.move (Operand.tmp 5), type := 3, pos := "ref.go:121", after := #[], guard := none }) (v := ?_) rfl (by kernel_rfl) (by kernel_rfl) (by kernel_rfl) (fun _ _ _ h => h) (Or.inl ⟨rfl, ?_⟩) hHeld ?_
          rotate_left
          · (intro wz hSw; (try dsimp only at hSw); go_simp; try with_reducible rfl)
          try simp only [Act.put, List.setIfInBounds_toArray, List.set_cons_zero, List.set_cons_succ]
          refine wpAnyH_take (i := 6) (oi := { dst := some 23, op := Op.indexAddr 22 (Operand.tmp 21) (Operand.tmp 22), type := 0, pos := "ref.go:121", after := #[{ on := 4, ground := Ground.data }, { on := 5, ground := Ground.data }], guard := none }) (v := ?_) rfl (by kernel_rfl) (by kernel_rfl) (by kernel_rfl) (fun _ _ _ h => h) (Or.inl ⟨rfl, ?_⟩) hHeld ?_
          rotate_left
          · (intro wz hSw; (try dsimp only at hSw); go_simp; try with_reducible rfl)
          try simp only [Act.put, List.setIfInBounds_toArray, List.set_cons_zero, List.set_cons_succ]
          refine wpAnyH_take (i := 7) (oi := { dst := some 24, op := Op.load 34 (Operand.tmp 23), type := 34, pos := "ref.go:121", after := #[{ on := 6, ground := Ground.data }], guard := none }) (v := ?_) rfl (by kernel_rfl) (by kernel_rfl) (by kernel_rfl) (fun _ _ _ h => h) (Or.inl ⟨rfl, ?_⟩) hHeld ?_
          rotate_left
          · (intro wz hSw; refine Bu.exec_mid 34 (Operand.tmp 23) ?_ b2 (off2 + j * 4) ?_ (Bu.cs y) hSw.2.1 Tryd.underlying34 rfl (Bu.info34 _) <;> rfl)
          try simp only [Act.put, List.setIfInBounds_toArray, List.set_cons_zero, List.set_cons_succ]
          refine wpAnyH_take (i := 8) (oi := { dst := some 25, op := Op.binOp BinOp.neq 34 (Operand.tmp 20) (Operand.tmp 24) 34, type := 4, pos := "ref.go:121", after := #[{ on := 3, ground := Ground.data }, { on := 7, ground := Ground.data }], guard := none }) (v := ?_) rfl (by kernel_rfl) (by kernel_rfl) (by kernel_rfl) (fun _ _ _ h => h) (Or.inl ⟨rfl, ?_⟩) hHeld ?_
          rotate_left
          · (intro wz hSw; refine Bu.exec_neq (o := { dst := some 25, op := Op.binOp BinOp.neq 34 (Operand.tmp 20) (Operand.tmp 24) 34, type := 4, pos := "ref.go:121", after := #[{ on := 3, ground := Ground.data }, { on := 7, ground := Ground.data }], guard := none }) (Operand.tmp 20) (Operand.tmp 24) ?_ x y tX tY _ hz.out ?_ ?_ <;> rfl)
          try simp only [Act.put, List.setIfInBounds_toArray, List.set_cons_zero, List.set_cons_succ]
          refine wpAnyH_done (by kernel_rfl) ?_ _
          obtain ⟨_, _, hB2⟩ := hHeld
          replace hB2 := Lib.hid hB2
          clear rX rY hB
          have hT2 := Lib.hid (hx1.out hxy.out)
          clear hx1 hx2 hz hxy
          go_wp2
          go_roundw
          case rel => exact ⟨j + 1, by omega, by go_num, hT2, hB2.out⟩
          case measure => simp [intOf]; omega
        · have hz := Lib.hid (show (true : Bool) = !(decide (x = y)) by rw [decide_eq_false hxy]; rfl)
          replace hxy := Lib.hid hxy
          go_wp2
          refine wp_region_held_drew (S := fun w' => w'.rangeAt b (off + j * 4) (Bu.cs x).toList ∧ w'.rangeAt b2 (off2 + j * 4) (Bu.cs y).toList ∧ Below w.heap.size w w') (by kernel_rfl) ?_ (fun hHeld => ?_)
          · exact ⟨rX, rY, hB.drew⟩
          refine wpAnyH_take (i := 0) (oi := { dst := some 17, op := Op.move (Operand.tmp 0), type := 22, pos := "ref.go:121", after := #[], guard := none }) (v := ?_) rfl (by kernel_rfl) (by kernel_rfl) (by kernel_rfl) (fun _ _ _ h => h) (Or.inl ⟨rfl, ?_⟩) hHeld ?_
          rotate_left
          · (intro wz hSw; (try dsimp only at hSw); go_simp; try with_reducible rfl)
          try simp only [Act.put, List.setIfInBounds_toArray, List.set_cons_zero, List.set_cons_succ]
          refine wpAnyH_take (i := 1) (oi := { dst := some 18, op := Op.move (Operand.tmp 5), type := 3, pos := "ref.go:121", after := #[], guard := none }) (v := ?_) rfl (by kernel_rfl) (by kernel_rfl) (by kernel_rfl) (fun _ _ _ h => h) (Or.inl ⟨rfl, ?_⟩) hHeld ?_
          rotate_left
          · (intro wz hSw; (try dsimp only at hSw); go_simp; try with_reducible rfl)
          try simp only [Act.put, List.setIfInBounds_toArray, List.set_cons_zero, List.set_cons_succ]
          refine wpAnyH_take (i := 2) (oi := { dst := some 19, op := Op.indexAddr 22 (Operand.tmp 17) (Operand.tmp 18), type := 0, pos := "ref.go:121", after := #[{ on := 0, ground := Ground.data }, { on := 1, ground := Ground.data }], guard := none }) (v := ?_) rfl (by kernel_rfl) (by kernel_rfl) (by kernel_rfl) (fun _ _ _ h => h) (Or.inl ⟨rfl, ?_⟩) hHeld ?_
          rotate_left
          · (intro wz hSw; (try dsimp only at hSw); go_simp; try with_reducible rfl)
          try simp only [Act.put, List.setIfInBounds_toArray, List.set_cons_zero, List.set_cons_succ]
          refine wpAnyH_take (i := 3) (oi := { dst := some 20, op := Op.load 34 (Operand.tmp 19), type := 34, pos := "ref.go:121", after := #[{ on := 2, ground := Ground.data }], guard := none }) (v := ?_) rfl (by kernel_rfl) (by kernel_rfl) (by kernel_rfl) (fun _ _ _ h => h) (Or.inl ⟨rfl, ?_⟩) hHeld ?_
          rotate_left
          · (intro wz hSw; refine Bu.exec_mid 34 (Operand.tmp 19) ?_ b (off + j * 4) ?_ (Bu.cs x) hSw.1 Tryd.underlying34 rfl (Bu.info34 _) <;> rfl)
          try simp only [Act.put, List.setIfInBounds_toArray, List.set_cons_zero, List.set_cons_succ]
          refine wpAnyH_take (i := 4) (oi := { dst := some 21, op := Op.move (Operand.tmp 1), type := 22, pos := "ref.go:121", after := #[], guard := none }) (v := ?_) rfl (by kernel_rfl) (by kernel_rfl) (by kernel_rfl) (fun _ _ _ h => h) (Or.inl ⟨rfl, ?_⟩) hHeld ?_
          rotate_left
          · (intro wz hSw; (try dsimp only at hSw); go_simp; try with_reducible rfl)
          try simp only [Act.put, List.setIfInBounds_toArray, List.set_cons_zero, List.set_cons_succ]
          refine wpAnyH_take (i := 5) (oi := { dst := some 22, op := Op.move (Operand.tmp 5), type := 3, pos := "ref.go:121", after := #[], guard := none }) (v := ?_) rfl (by kernel_rfl) (by kernel_rfl) (by kernel_rfl) (fun _ _ _ h => h) (Or.inl ⟨rfl, ?_⟩) hHeld ?_
          rotate_left
          · (intro wz hSw; (try dsimp only at hSw); go_simp; try with_reducible rfl)
          try simp only [Act.put, List.setIfInBounds_toArray, List.set_cons_zero, List.set_cons_succ]
          refine wpAnyH_take (i := 6) (oi := { dst := some 23, op := Op.indexAddr 22 (Operand.tmp 21) (Operand.tmp 22), type := 0, pos := "ref.go:121", after := #[{ on := 4, ground := Ground.data }, { on := 5, ground := Ground.data }], guard := none }) (v := ?_) rfl (by kernel_rfl) (by kernel_rfl) (by kernel_rfl) (fun _ _ _ h => h) (Or.inl ⟨rfl, ?_⟩) hHeld ?_
          rotate_left
          · (intro wz hSw; (try dsimp only at hSw); go_simp; try with_reducible rfl)
          try simp only [Act.put, List.setIfInBounds_toArray, List.set_cons_zero, List.set_cons_succ]
          refine wpAnyH_take (i := 7) (oi := { dst := some 24, op := Op.load 34 (Operand.tmp 23), type := 34, pos := "ref.go:121", after := #[{ on := 6, ground := Ground.data }], guard := none }) (v := ?_) rfl (by kernel_rfl) (by kernel_rfl) (by kernel_rfl) (fun _ _ _ h => h) (Or.inl ⟨rfl, ?_⟩) hHeld ?_
          rotate_left
          · (intro wz hSw; refine Bu.exec_mid 34 (Operand.tmp 23) ?_ b2 (off2 + j * 4) ?_ (Bu.cs y) hSw.2.1 Tryd.underlying34 rfl (Bu.info34 _) <;> rfl)
          try simp only [Act.put, List.setIfInBounds_toArray, List.set_cons_zero, List.set_cons_succ]
          refine wpAnyH_take (i := 8) (oi := { dst := some 25, op := Op.binOp BinOp.neq 34 (Operand.tmp 20) (Operand.tmp 24) 34, type := 4, pos := "ref.go:121", after := #[{ on := 3, ground := Ground.data }, { on := 7, ground := Ground.data }], guard := none }) (v := ?_) rfl (by kernel_rfl) (by kernel_rfl) (by kernel_rfl) (fun _ _ _ h => h) (Or.inl ⟨rfl, ?_⟩) hHeld ?_
          rotate_left
          · (intro wz hSw; refine Bu.exec_neq (o := { dst := some 25, op := Op.binOp BinOp.neq 34 (Operand.tmp 20) (Operand.tmp 24) 34, type := 4, pos := "ref.go:121", after := #[{ on := 3, ground := Ground.data }, { on := 7, ground := Ground.data }], guard := none }) (Operand.tmp 20) (Operand.tmp 24) ?_ x y tX tY _ hz.out ?_ ?_ <;> rfl)
          try simp only [Act.put, List.setIfInBounds_toArray, List.set_cons_zero, List.set_cons_succ]
          refine wpAnyH_done (by kernel_rfl) ?_ _
          obtain ⟨_, _, hB2⟩ := hHeld
          replace hB2 := Lib.hid hB2
          clear rX rY hB
          have hr : R = false := by rw [hR2.out, decide_eq_false (hx2.out hxy.out)]
          subst hr
          clear hx1 hx2 hz hxy hR2
          go_wp2
          go_ret
          exact ⟨rfl, hB2.out⟩
      · obtain rfl : j = n := by omega
        have e : xs = ys := by
          have h := hT.out
          rwa [List.take_of_length_le (by omega), List.take_of_length_le (by omega)] at h
        have hr : R = true := by rw [hR2.out, decide_eq_true e]
        replace hB := Lib.hid hB
        subst hr
        clear hR2 e hT
        go_wp2
        go_ret
        exact ⟨rfl, hB.out⟩
  · have hr : R = false := by
      rw [hR]
      exact decide_eq_false fun e => hnm (by rw [← hlx, ← hly, e])
    subst hr
    have c1 : (n : Int) ≠ (m : Int) := by omega
    have c2 : ((n : Int) == (m : Int)) = false := by simpa using c1
    clear hR hX hY
    have hB0 := Lib.hid (Below.refl w.heap.size w)
    go_enter Tryd.func12, Tryd.ntmps12
    go_wp2
    go_ret
    exact ⟨rfl, hB0.out⟩
theorem Bu.strs (x y : List Int) : strOfNums x ++ strOfNums y = strOfNums (x ++ y) := by
  rw [ByteArray.ext_iff]
  unfold strOfNums
  simp
set_option maxHeartbeats 4000000 in
set_option maxRecDepth 100000 in
theorem Bu.rjoin_any {w : World} {A : Option Addr} {n c : Nat} {ys : List Sc.Tk} (h : Tr w A n c ys) (hj : (Sc.join ys).length ≤ 1000000) (hn : n ≤ 1000000) :
    Calls Tryd.prog 15 #[.slice A n c] w fun e w' => e = .returned (.string (strOfNums (Sc.join ys))) ∧ w = w' := by
  have hl := h.len
  have hle := h.le
  have H := Lib.hid h
  have hn1 : (n : Int) ≤ 1000000 := by omega
  clear h
  go_enter Tryd.func15, Tryd.ntmps15
  go_wp2
  go_loopw [3, 4] (fun o i wr => ∃ k : Nat, k ≤ n ∧ i = .int .i64 (k : Int) ∧ o = .string (strOfNums (Sc.join (ys.take k))) ∧ w = wr) (fun _ i _ => n - (intOf i).toNat)
  case atStart => exact ⟨0, Nat.zero_le _, rfl, rfl, rfl⟩
  case round =>
    obtain ⟨k, hk, rfl, rfl, rfl⟩ := hrel
    have hk0 : (0 : Int) ≤ (k : Int) := by omega
    by_cases hkn : k < n
    · have c1 : (k : Int) < (n : Int) := by omega
      obtain ⟨b, off, rfl⟩ := H.out.place (by omega)
      obtain ⟨g0, g1, g2, g3⟩ := H.out.four k hkn
      have hjs := Sc.join_succ (ys := ys) (k := k) (by omega)
      have hjl := Sc.join_take_le ys (k + 1)
      rw [hjs] at hjl
      simp only [List.length_append, List.length_cons, List.length_nil] at hjl
      clear g1 g3
      have q1 : (strOfNums (Sc.join (ys.take k))).size = (Sc.join (ys.take k)).length := strOfNums_size _
      have q2 : (strOfNums (Sc.tk ys k).t).size = (Sc.tk ys k).t.length := strOfNums_size _
      have q3 : (⟨#[46]⟩ : ByteArray) = strOfNums [46] := rfl
      have q4 : (⟨#[32]⟩ : ByteArray) = strOfNums [32] := rfl
      by_cases d4 : (Sc.tk ys k).k = 4
      · have hdot : Sc.dot (Sc.tk ys k) = [46] := by unfold Sc.dot; rw [if_pos d4]
        rw [hdot] at hjs hjl
        rw [d4] at g0
        have hjs2 := Lib.hid (show strOfNums (Sc.join (ys.take k)) ++ ⟨#[46]⟩ ++ strOfNums (Sc.tk ys k).t ++ ⟨#[32]⟩ = strOfNums (Sc.join (ys.take (k + 1))) by
          rw [q3, q4, Bu.strs, Bu.strs, Bu.strs, hjs]; simp)
        clear hjs q3 q4 hdot d4
        go_wp2
        go_roundw
        case rel => exact ⟨k + 1, by omega, by go_num, by rw [← hjs2.out], by trivial⟩
        case measure => simp [intOf]; omega
      · have hdot : Sc.dot (Sc.tk ys k) = [] := by unfold Sc.dot; rw [if_neg d4]
        have d5 : ((Sc.tk ys k).k == 4) = false := by simpa using d4
        rw [hdot] at hjs hjl
        have hjs2 := Lib.hid (show strOfNums (Sc.join (ys.take k)) ++ strOfNums (Sc.tk ys k).t ++ ⟨#[32]⟩ = strOfNums (Sc.join (ys.take (k + 1))) by
          rw [q4, Bu.strs, Bu.strs, hjs]; simp)
        clear hjs q3 q4 hdot d4
        go_wp2
        go_roundw
        case rel => exact ⟨k + 1, by omega, by go_num, by rw [← hjs2.out], by trivial⟩
        case measure => simp [intOf]; omega
    · obtain rfl : k = n := by omega
      have ht : ys.take k = ys := List.take_of_length_le (by omega)
      rw [ht]
      go_wp2
      go_ret
      exact ⟨rfl, rfl⟩
/-- the first bytes of a line -/
def Bu.cut (s : ByteArray) : ByteArray := s.extract 0 (min s.size 100)
theorem Bu.cut_size (s : ByteArray) : (Bu.cut s).size ≤ 100 := by unfold Bu.cut; simp; omega
theorem Bu.few_any (s : ByteArray) (hs : s.size ≤ maxLen) (w : World) : Calls Tryd.prog 10 #[.string s] w fun e w' => e = .returned (.string (Bu.cut s)) ∧ w = w' := by
  unfold maxLen at hs
  have hs1 : (s.size : Int) ≤ 9223372036854775807 := by omega
  unfold Bu.cut
  by_cases c : (s.size : Int) ≤ 100
  · have e : s.extract 0 s.size = s := by simp
    have hz2 : s.size ≤ 100 := by omega
    rw [Nat.min_eq_left hz2]
    go_enter Tryd.func10, Tryd.ntmps10
    go_wp2
    go_ret
    have e1 : (min (s.size : Int) 100).toNat = s.size := by omega
    refine ⟨?_, rfl⟩
    show Ending.returned (Value.string (s.extract 0 (min (s.size : Int) 100).toNat)) = _
    rw [e1]
  · have c2 : ¬ (s.size : Int) < 100 := by omega
    rw [Nat.min_eq_right (show 100 ≤ s.size by omega)]
    go_enter Tryd.func10, Tryd.ntmps10
    go_wp2
    go_ret
    have e1 : (min (s.size : Int) 100).toNat = 100 := by omega
    refine ⟨?_, rfl⟩
    show Ending.returned (Value.string (s.extract 0 (min (s.size : Int) 100).toNat)) = _
    rw [e1]
end Go.Proofs.YtpbgniffjlcbhaaDoor
