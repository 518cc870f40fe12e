/-
  Joined: Lo3, AluA, MacL.
-/
import Derived.ChangeKeysEq
import Derived.Test.YtpfgmfiegnkocaaM10
import Derived.Test.YtpfgmfiegnkocaaMac9
import Derived.Test.YtpfgmfiegnkocaaM14
/-
  The contracts of Regs of package load, and of the document's.
-/
namespace Go.Proofs.Ytpfgmfiegnkocaa
open Go.RowKit
set_option linter.unusedVariables false
set_option linter.unusedSimpArgs false
set_option maxRecDepth 100000
set_option maxRecDepth 100000
/-- the zero cells of an array's type, and how many an element has -/
def shapeArr (P : Program) (t : TypeId) : Option (Array Value × Nat) :=
  match P.info? t, P.underlying t with
  | some it, some (.array _ e) =>
    match it.zero, P.info? e with
    | some z, some ie => some (z.cells, ie.size)
    | _, _ => none
  | _, _ => none
theorem built_arr {P : Program} {t : TypeId} {z : Array Value} {n : Nat} (h : shapeArr P t = some (z, n)) (parts : List (Nat × Value)) :
    P.built t parts = Instr.fill (fun i => some (i * n, n)) z parts := by
  unfold shapeArr at h
  unfold Program.built
  cases h1 : P.info? t with
  | none => simp [h1] at h
  | some it =>
    cases h2 : P.underlying t with
    | none => simp [h1, h2] at h
    | some d =>
      cases d <;> simp only [h1, h2] at h ⊢ <;> try (cases h; done)
      split at h
      · rename_i z' p' e1 e2
        simp only [Option.some.injEq, Prod.mk.injEq] at h
        obtain ⟨rfl, rfl⟩ := h
        simp only [e1, e2]
      · cases h
/-- the registers at the start -/
def Lo.rg (x y : Int) : A.Regs := A.set (A.set A.none' 13 x) 14 y
def Lo.regs (b m : Int) : A.Regs := Lo.rg (b % 4294967296) (4 * m % 4294967296)
def Lo.row (x y : Int) : Array Value := #[.int .u32 0, .int .u32 0, .int .u32 0, .int .u32 0, .int .u32 0, .int .u32 0, .int .u32 0, .int .u32 0, .int .u32 0, .int .u32 0, .int .u32 0, .int .u32 0, .int .u32 0, .int .u32 x, .int .u32 y, .int .u32 0]
theorem Lo.builtR (x y : Int) : Try.prog.built 40 [(13, .int .u32 x), (14, .int .u32 y)] = some (Lo.row x y) := by
  rw [built_arr (show shapeArr Try.prog 40 = some (Lo.row 0 0, 1) by kernel_rfl)]
  rfl
def Lo.all (x y : Int) : Array Value := #[.int .u32 0, .int .u32 0, .int .u32 0, .int .u32 0, .int .u32 0, .int .u32 0, .int .u32 0, .int .u32 0, .int .u32 0, .int .u32 0, .int .u32 0, .int .u32 0, .int .u32 0, .int .u32 x, .int .u32 y, .int .u32 0, .int .u32 0, .bool false, .bool false, .bool false, .bool false]
theorem Lo.all_eq (x y : Int) : Lo.all x y = A.cells (Lo.rg x y) := by kernel_rfl
theorem Lo.zero_eq : Lo.all 0 0 = A.cells A.none' := by kernel_rfl
theorem Lo.builtS (x y : Int) : Try.prog.built 42 [(0, .agg (Lo.row x y))] = some (A.cells (Lo.rg x y)) := by
  rw [built_of (show shapeOf Try.prog 42 = some (Lo.all 0 0, [(0, 16), (16, 1), (17, 1), (18, 1), (19, 1), (20, 1)]) by kernel_rfl), ← Lo.all_eq]
  kernel_rfl
theorem Lo.ok_none : A.Ok A.none' := ⟨fun j _ => by simp [A.none'], by simp [A.none'], by simp [A.none']⟩
theorem Lo.ok_set (s : A.Regs) (j : Nat) (x : Int) (hs : A.Ok s) (h0 : 0 ≤ x) (h1 : x < 4294967296) : A.Ok (A.set s j x) :=
  ⟨fun k hk => by
    show 0 ≤ (if k = j then x else s.r k) ∧ (if k = j then x else s.r k) < 4294967296
    split
    · exact ⟨h0, h1⟩
    · exact hs.1 k hk, hs.2.1, hs.2.2⟩
theorem Lo.ok_rg {x y : Int} (x0 : 0 ≤ x) (x1 : x < 4294967296) (y0 : 0 ≤ y) (y1 : y < 4294967296) : A.Ok (Lo.rg x y) := Lo.ok_set _ _ _ (Lo.ok_set _ _ _ Lo.ok_none x0 x1) y0 y1
theorem Lo.ok_regs (b m : Int) : A.Ok (Lo.regs b m) := Lo.ok_rg (by omega) (by omega) (by omega) (by omega)
theorem Lo.wrap_mod (m : Int) : wrap64 (4 * m) % 4294967296 = 4 * m % 4294967296 := by
  unfold wrap64
  omega
set_option maxRecDepth 100000 in
theorem Lo.regs_at (b m X Y : Int) (hX : b % 4294967296 = X) (hY : wrap64 (4 * m) % 4294967296 = Y) (w : World) :
    Calls Try.prog 14 #[.int .i64 b, .int .i64 m] w fun e w' => e = .returned (.agg (A.cells (Lo.rg X Y))) ∧ Kept w w' := by
  go_enter Try.func14, Try.ntmps14
  go_upto_region 1 with (fail)
  have hZ := Has.new (Lo.all 0 0) 42 w
  have hK := (Kept.refl w).alloc (Lo.all 0 0) 42
  change Code.wp _ _ _ _ (w.alloc (.cells (Lo.all 0 0) 42))
  rw [Lo.zero_eq] at hZ hK ⊢
  generalize w.alloc (.cells (A.cells A.none') 42) = w1 at *
  replace hZ := Lib.hid hZ
  replace hK := Lib.hid hK
  go_wp2_with (first
    | ((with_reducible refine build_has (o := ⟨some 10, _, _, _, _, _⟩) rfl 40 _ rfl (Lo.row X Y) ?hf4 ?_); (case hf4 => (go_simp; exact Lo.builtR _ _)))
    | ((with_reducible refine build_has (o := ⟨some 11, _, _, _, _, _⟩) rfl 42 _ rfl (A.cells (Lo.rg X Y)) ?hf5 ?_); (case hf5 => (go_simp; exact Lo.builtS _ _)))
    | (with_reducible refine store_has (o := ⟨none, _, _, _, _, _⟩) rfl 42 _ _ rfl _ _ rfl rfl hZ.out (A.info25 _) (by kernel_rfl) (A.one_cells _) ?_)
    | fail)
  exact bodyPost_ret (results_has rfl w.heap.size rfl (hZ.out.row _) Try.underlying42 rfl (A.info25 _)) rfl ⟨rfl, hK.out.row (Nat.le_refl _) _⟩
theorem Lo.regs_any (b m : Int) (w : World) :
    Calls Try.prog 14 #[.int .i64 b, .int .i64 m] w fun e w' => e = .returned (.agg (A.cells (Lo.regs b m))) ∧ Kept w w' :=
  Lo.regs_at b m _ _ rfl (Lo.wrap_mod m) w
theorem Lo.builtZ : Try.prog.built 42 [] = some (A.cells A.none') := by
  rw [built_of (show shapeOf Try.prog 42 = some (Lo.all 0 0, [(0, 16), (16, 1), (17, 1), (18, 1), (19, 1), (20, 1)]) by kernel_rfl), ← Lo.zero_eq]
  rfl
theorem Lo.exec_regs0 {o : Oper} {a : Act} {w : World} (ho : o.op = .build 42 #[]) : (execOp a.eval o).run Try.prog w = .ok (.value (.agg (A.cells A.none'))) w := by
  refine exec_build 42 #[] ho _ ?_
  rw [Array.map_empty]
  exact Lo.builtZ
theorem Lo.set_13 (x : Int) : (A.cells A.none').setIfInBounds 13 (.int .u32 x) = A.cells (A.set A.none' 13 x) := A.set_r _ 13 (by omega) x
theorem Lo.set_14 (x y : Int) : (A.cells (A.set A.none' 13 x)).setIfInBounds 14 (.int .u32 y) = A.cells (Lo.rg x y) := A.set_r _ 14 (by omega) y
set_option maxRecDepth 100000 in
theorem Lo.rregs_at (b m X Y : Int) (hX : b % 4294967296 = X) (hY : wrap64 (4 * m) % 4294967296 = Y) (w : World) :
    Calls Try.prog 15 #[.int .i64 b, .int .i64 m] w fun e w' => e = .returned (.agg (A.cells (Lo.rg X Y))) ∧ Kept w w' := by
  go_enter Try.func15, Try.ntmps15
  go_upto_region 1 with (fail)
  have hZ := Has.new (Lo.all 0 0) 42 w
  have hK := (Kept.refl w).alloc (Lo.all 0 0) 42
  change Code.wp _ _ _ _ (w.alloc (.cells (Lo.all 0 0) 42))
  rw [Lo.zero_eq] at hZ hK ⊢
  generalize w.alloc (.cells (A.cells A.none') 42) = w1 at *
  have hlt := hZ.lt
  replace hZ := Lib.hid hZ
  replace hK := Lib.hid hK
  go_upto_region 2 with (first
    | (with_reducible refine want_do (o := ⟨some 6, _, _, _, _, _⟩) rfl (Lo.exec_regs0 rfl) ?_)
    | (with_reducible refine store_last (o := ⟨none, Op.store 42 (.tmp 5) _, _, _, _, _⟩) rfl 42 _ _ rfl _ _ rfl rfl rfl (A.info25 _) (by kernel_rfl) (A.one_cells _) ?_)
    | fail)
  have hS := Has.new (A.cells A.none') 42 w1
  have hA := (Kept.refl w1).alloc (A.cells A.none') 42
  replace hZ := Lib.hid (hZ.out.kept hA)
  replace hK := Lib.hid (hK.out.trans hA)
  have hG : w.heap.size < w1.heap.size := hlt
  clear hA hlt
  generalize w1.alloc (.cells (A.cells A.none') 42) = w2 at *
  generalize w1.heap.size = G at *
  have c1 := hS.cell 13 (.int .u32 0) rfl
  have f1 := hS.free 13
  have hS2 := hS.set 13 (.int .u32 X)
  rw [Lo.set_13] at hS2
  have hZ2 := Lib.hid (hZ.out.other (p := ⟨G, 13, none⟩) (by show w.heap.size ≠ G; omega) (.int .u32 X))
  have hK2 := Lib.hid (hK.out.setCell (p := ⟨G, 13, none⟩) (by show w.heap.size ≤ G; omega) (.int .u32 X))
  replace hS2 := Lib.hid hS2
  clear hS hZ hK
  go_upto_region 3 with (fail)
  generalize w2.setCell ⟨G, 13, none⟩ (.int .u32 X) = w3 at *
  clear c1 f1
  have c1 := hS2.out.cell 14 (.int .u32 0) rfl
  have f1 := hS2.out.free 14
  have hS3 := hS2.out.set 14 (.int .u32 Y)
  rw [Lo.set_14] at hS3
  have hZ3 := Lib.hid (hZ2.out.other (p := ⟨G, 14, none⟩) (by show w.heap.size ≠ G; omega) (.int .u32 Y))
  have hK3 := Lib.hid (hK2.out.setCell (p := ⟨G, 14, none⟩) (by show w.heap.size ≤ G; omega) (.int .u32 Y))
  replace hS3 := Lib.hid hS3
  clear hS2 hZ2 hK2
  go_upto_region 4 with (fail)
  generalize w3.setCell ⟨G, 14, none⟩ (.int .u32 Y) = w4 at *
  clear c1 f1
  go_wp2_with (first
    | (with_reducible refine load_has rfl 42 _ rfl _ rfl hS3.out Try.underlying42 rfl (A.info25 _) ?_)
    | (with_reducible refine store_has (o := ⟨none, _, _, _, _, _⟩) rfl 42 _ _ rfl _ _ rfl rfl hZ3.out (A.info25 _) (by kernel_rfl) (A.one_cells _) ?_)
    | fail)
  exact bodyPost_ret (results_has rfl w.heap.size rfl (hZ3.out.row _) Try.underlying42 rfl (A.info25 _)) rfl ⟨rfl, hK3.out.row (Nat.le_refl _) _⟩
theorem Lo.rregs_any (b m : Int) (w : World) :
    Calls Try.prog 15 #[.int .i64 b, .int .i64 m] w fun e w' => e = .returned (.agg (A.cells (Lo.regs b m))) ∧ Kept w w' :=
  Lo.rregs_at b m _ _ rfl (Lo.wrap_mod m) w
end Go.Proofs.Ytpfgmfiegnkocaa
/-
  Two registers' values that are the same are equal; operations behind a guard.
-/
namespace Go.Proofs.Ytpfgmfiegnkocaa
open Go.RowKit
set_option linter.unusedVariables false
set_option linter.unusedSimpArgs false
set_option maxRecDepth 100000
theorem A.part_u (xs : Array Value) (j : Nat) (x : Int) (w : World) (hj : xs[j]? = some (.int .u32 x)) : (part 39 xs j).run Try.prog w = .ok (.int .u32 x) w := by
  have ha := run_isAgg Try.underlying39 w
  simp [part, Sem.run_bind, run_sizeOf (P := Try.prog) (e := 39) (m := 1) (by kernel_rfl), ha, TypeDesc.isRow, hj]
theorem A.part_b (xs : Array Value) (j : Nat) (x : Bool) (w : World) (hj : xs[j]? = some (.bool x)) : (part 4 xs j).run Try.prog w = .ok (.bool x) w := by
  have ha := run_isAgg Try.underlying4 w
  simp [part, Sem.run_bind, run_sizeOf (P := Try.prog) (e := 4) (m := 1) (by kernel_rfl), ha, TypeDesc.isRow, hj]
theorem A.part_R (s : A.Regs) (w : World) : (part 40 (A.cells s) 0).run Try.prog w = .ok (.agg ((A.cells s).extract 0 16)) w := by
  have ha := run_isAgg Try.underlying40 w
  simp [part, Sem.run_bind, run_sizeOf (P := Try.prog) (e := 40) (m := 16) (by kernel_rfl), ha, TypeDesc.isRow]
theorem A.items (d : Nat) (xs : Array Value) (w : World) : ∀ is : List Nat, (∀ i ∈ is, ∃ x, xs[i]? = some (.int .u32 x)) → (Op.eqItems (d + 1) 39 1 xs xs is).run Try.prog w = .ok true w
  | [], _ => by simp [Op.eqItems]
  | i :: is, h => by
    obtain ⟨x, hx⟩ := h i (by simp)
    have hp := A.part_u xs (i * 1) x w (by simpa using hx)
    have := A.items d xs w is (fun j hj => h j (by simp [hj]))
    simp only [Op.eqItems, Sem.run_bind, hp, Result.andThen_ok, run_equalIn_int w d 39 .u32 .u32 x x Try.underlying39]
    simpa using this
theorem A.eq_R (d : Nat) (s : A.Regs) (w : World) : (Op.equalIn (d + 2) 40 (.agg ((A.cells s).extract 0 16)) (.agg ((A.cells s).extract 0 16))).run Try.prog w = .ok true w := by
  obtain ⟨i, hi⟩ : ∃ i, Try.prog.info? 39 = some i := Option.isSome_iff_exists.1 (show (Try.prog.info? 39).isSome = true by kernel_rfl)
  rw [run_equalIn_array w (d + 1) _ _ Try.underlying40 hi, show Try.prog.cellsOf 39 = 1 by kernel_rfl]
  refine A.items d _ w _ fun j hj => ?_
  have hj' : j < 16 := by simpa using hj
  exact ⟨s.r j, by rw [Array.getElem?_extract]; simp [hj', A.cell_r s j hj']⟩
theorem A.eq_u (d : Nat) (x : Int) (w : World) : (Op.equalIn (d + 2) 39 (.int .u32 x) (.int .u32 x)).run Try.prog w = .ok true w := by
  rw [run_equalIn_int w (d + 1) 39 .u32 .u32 x x Try.underlying39]; simp
theorem A.eq_b (d : Nat) (x : Bool) (w : World) : (Op.equalIn (d + 2) 4 (.bool x) (.bool x)).run Try.prog w = .ok true w := by
  rw [run_equalIn_bool' w (d + 1) 4 x x Try.underlying4]; simp
theorem A.eq_regsD (d : Nat) (s : A.Regs) (w : World) : (Op.equalIn (d + 3) 42 (.agg (A.cells s)) (.agg (A.cells s))).run Try.prog w = .ok true w := by
  rw [run_equalIn_struct w (d + 2) 42 _ _ Try.underlying42 (by kernel_rfl)]
  simp only [Program.fieldsOf, Try.underlying42]
  simp only [Op.eqFields]
  rw [if_pos (by decide), if_pos (by decide), if_pos (by decide), if_pos (by decide), if_pos (by decide), if_pos (by decide)]
  simp only [Sem.run_bind, A.part_R, A.eq_R, A.part_u (A.cells s) 16 s.h _ rfl, A.part_b (A.cells s) 17 s.n _ rfl, A.part_b (A.cells s) 18 s.z _ rfl, A.part_b (A.cells s) 19 s.c _ rfl, A.part_b (A.cells s) 20 s.v _ rfl, A.eq_u, A.eq_b, Result.andThen_ok, Bool.not_true, Bool.false_eq_true, if_false, Sem.run_pure]
theorem A.depth : Op.maxDepth = 9997 + 3 := rfl
theorem A.eq_regs (s : A.Regs) (w : World) : (Op.equal 42 (.agg (A.cells s)) (.agg (A.cells s))).run Try.prog w = .ok true w := by
  unfold Op.equal
  rw [A.depth]
  exact A.eq_regsD 9997 s w
section
variable {P : Program} {ops : Array Oper} {rest : List Oper} {o : Oper} {a : Act} {w : World} {Q : Exit → Act → World → Prop}
/-- an operation that is wanted, and only makes a value -/
theorem want_exec {v : Value} (hw : Region.wanted o (yielded ops a.tmps) = true) (he : (execOp a.eval o).run P w = .ok (.value v) w) (h : wpList P ops Q rest (a.put o.dst v) w) : wpList P ops Q (o :: rest) a w :=
  BigFrame.wpList_want hw fun K hK => by
    unfold Oper.wp
    simp only [he, Oper.upon]
    exact hK _ _ h
end
theorem A.bin_eq (cs ds : Array Value) : binOp BinOp.eql 42 (.agg cs) (.agg ds) = (do pure (.bool (← Op.equal 42 (.agg cs) (.agg ds)))) := by simp only [binOp]
theorem exec_eq_regs {o : Oper} {a : Act} {w : World} (x y : Operand) (ho : o.op = .binOp .eql 42 x y 42) (s : A.Regs) (hx : a.eval x = .agg (A.cells s)) (hy : a.eval y = .agg (A.cells s)) :
    (execOp a.eval o).run Try.prog w = .ok (.value (.bool true)) w := by
  unfold execOp
  simp only [ho, hx, hy, Sem.run_bind]
  rw [run_eqGuard_agg w BinOp.eql 42 x y (A.cells s) (A.cells s) (by kernel_rfl)]
  simp only [Result.andThen_ok, A.bin_eq, Sem.run_bind, A.eq_regs, Sem.run_pure]
end Go.Proofs.Ytpfgmfiegnkocaa
/-
  One machine in a walk: Live.
-/
namespace Go.Proofs.Ytpfgmfiegnkocaa
open Go.RowKit
set_option linter.unusedVariables false
set_option linter.unusedSimpArgs false
set_option maxRecDepth 100000
def Live (w0 : World) (B : Nat) (x : X.St) (w : World) : Prop := ∃ F, Mac F B x w ∧ (∀ k, F k → w0.heap.size ≤ k) ∧ Below w0.heap.size w0 w
theorem Live.below {w0 : World} {B : Nat} {x : X.St} {w : World} (h : Live w0 B x w) : Below w0.heap.size w0 w := by obtain ⟨F, h1, h2, h3⟩ := h; exact h3
theorem Live.mac {w0 : World} {B : Nat} {x : X.St} {w : World} (h : Live w0 B x w) : ∃ F, Mac F B x w := by obtain ⟨F, h1, h2, h3⟩ := h; exact ⟨F, h1⟩
theorem Live.turn0 {w0 : World} {B : Nat} {x : X.St} {w w' : World} (h : Live w0 B x w) (hT : Turn T0 w w') : Live w0 B x w' := by
  obtain ⟨F, h1, h2, h3⟩ := h
  exact ⟨F, h1.turn hT fun _ _ h => h, h2, h3.trans (hT.below w0.heap.size h3.size fun _ h => h.elim)⟩
theorem Live.kept {w0 : World} {B : Nat} {x : X.St} {w w' : World} (h : Live w0 B x w) (hK : Kept w w') : Live w0 B x w' := h.turn0 (hK.turn T0)
theorem Live.to {w0 : World} {B : Nat} {x' : X.St} {F F' : Nat → Prop} {w w' : World} (hF : ∀ k, F k → w0.heap.size ≤ k) (hb : Below w0.heap.size w0 w) (hM : Mac F' B x' w') (hT : Turn F w w') (hF' : ∀ k, F' k → F k ∨ w.heap.size ≤ k) : Live w0 B x' w' :=
  ⟨F', hM, fun k hk => by
    rcases hF' k hk with h1 | h1
    · exact hF k h1
    · exact Nat.le_trans hb.size h1, hb.trans (hT.below w0.heap.size hb.size hF)⟩
theorem Live.toB {w0 : World} {B : Nat} {x' : X.St} {F : Nat → Prop} {w w' : World} (hF : ∀ k, F k → w0.heap.size ≤ k) (hb : Below w0.heap.size w0 w) (hM : Mac F B x' w') (hB : But B w w') : Live w0 B x' w' :=
  Live.to hF hb hM (hB.turn hM.inB) fun k hk => Or.inl hk
theorem new_live {w : World} (n : Nat) (hn : n ≤ 4096) {ap : Option Addr} {m c : Nat} {xs : List Int} (hx : Ws w ap m c xs) (hm : m ≤ 1000000000) :
    Calls Try.prog 22 #[.int .i64 n, .slice ap m c] w fun e w' => ∃ B, e = .returned (.tuple #[.pointer (some ⟨B, 0, none⟩), .int .i64 0]) ∧ Live w B ⟨List.replicate n 0, A.none', 0, 0, xs, []⟩ w' := by
  refine (new_any n hn hx hm).mono ?_
  rintro e w' ⟨B, he, F, h1, h2, h3⟩
  exact ⟨B, he, F, h1, h3, h2.kept0⟩
theorem place_live {w0 : World} {B : Nat} {x : X.St} {w : World} (h : Live w0 B x w) (k : Nat) (ap : Option Addr) (n c : Nat) (xs : List Int) (hx : Ws w ap n c xs) (hf : k + n ≤ x.ws.length) :
    Calls Try.prog 23 #[.pointer (some ⟨B, 0, none⟩), .int .i64 k, .slice ap n c] w fun e w' => e = .returned (.int .i64 0) ∧ Live w0 B ⟨M.placed x.ws k xs, x.s, x.pc, x.st, x.ins, x.outs⟩ w' := by
  obtain ⟨F, h1, h2, h3⟩ := h
  refine (place_any h1 k ap n c xs hx hf).mono ?_
  rintro e w' ⟨he, p1, p2⟩
  exact ⟨he, Live.toB h2 h3 p1 p2⟩
theorem start_live {w0 : World} {B : Nat} {x : X.St} {w : World} (h : Live w0 B x w) (pc : Int) (s : A.Regs) (ok : A.Ok s) (p0 : 0 ≤ pc) (p1 : pc < 4294967296) :
    Calls Try.prog 24 #[.pointer (some ⟨B, 0, none⟩), .int .u32 pc, .agg (A.cells s)] w fun e w' => e = .returned (.tuple #[]) ∧ Live w0 B ⟨x.ws, s, pc, 0, x.ins, x.outs⟩ w' := by
  obtain ⟨F, h1, h2, h3⟩ := h
  refine (start_any h1 pc s ok p0 p1).mono ?_
  rintro e w' ⟨he, q1, q2⟩
  exact ⟨he, Live.toB h2 h3 q1 q2⟩
theorem pc_live {w0 : World} {B : Nat} {x : X.St} {w : World} (h : Live w0 B x w) :
    Calls Try.prog 19 #[.pointer (some ⟨B, 0, none⟩)] w fun e w' => e = .returned (.int .u32 x.pc) ∧ w = w' := by
  obtain ⟨F, h1⟩ := h.mac; exact pc_any h1
theorem regs_live {w0 : World} {B : Nat} {x : X.St} {w : World} (h : Live w0 B x w) :
    Calls Try.prog 18 #[.pointer (some ⟨B, 0, none⟩)] w fun e w' => e = .returned (.agg (A.cells x.s)) ∧ Kept w w' := by
  obtain ⟨F, h1⟩ := h.mac; exact regs_any h1
theorem outs_live {w0 : World} {B : Nat} {x : X.St} {w : World} (h : Live w0 B x w) (hn : x.outs.length ≤ 1000000000) :
    Calls Try.prog 25 #[.pointer (some ⟨B, 0, none⟩)] w fun e w' => ∃ A' c', e = .returned (.slice A' x.outs.length c') ∧ Ws w' A' x.outs.length c' x.outs ∧ Turn T0 w w' ∧ ∀ ad, A' = some ad → w.heap.size ≤ ad.block ∧ ad.block < w'.heap.size := by
  obtain ⟨F, h1⟩ := h.mac; exact outs_any h1 hn
theorem A.field_R (s : A.Regs) (W : World) : (Instr.field 42 (.agg (A.cells s)) 0).run Try.prog W = .ok (.agg ((A.cells s).extract 0 16)) W := by
  have h := A.part_R s W
  simp only [Instr.field, Sem.run_bind, run_underlying Try.underlying42, Result.andThen_ok, asAgg, Sem.run_pure]
  exact h
theorem A.index_R (s : A.Regs) (j : Nat) (hj : j < 16) (W : World) : (Instr.index 40 (.agg ((A.cells s).extract 0 16)) (.int .i64 j)).run Try.prog W = .ok (.int .u32 (s.r j)) W :=
  run_index_cell Try.underlying40 (by omega) (by omega) Try.underlying39 rfl (by kernel_rfl) (by
    rw [Array.getElem?_extract]
    have := A.cell_r s j hj
    simp [hj, this]) W
end Go.Proofs.Ytpfgmfiegnkocaa
