/-
  The contract of few: an object's beginning.
-/
import Derived.Test.YtpfgmfiegnkocaaM07
namespace Go.Proofs.Ytpfgmfiegnkocaa
open Go.RowKit
set_option linter.unusedVariables false
set_option linter.unusedSimpArgs false
set_option maxRecDepth 100000
theorem Ob.info39 : (Try.prog.info? 69).map (fun i => (i.zero, i.size, i.bytes)) = some (some (.agg #[.string ⟨#[]⟩, .int .i64 0]), 2, 24) := by kernel_rfl
theorem Ob.info26 (x y z : Value) : (Try.prog.info? 26).map (·.size) = some (#[x, y, z] : Array Value).size := by
  show (Try.prog.info? 26).map (·.size) = some 3
  kernel_rfl
theorem Ob.oneS (A B C : Option Addr) (n c m d k e : Nat) : (#[.slice A n c, .slice B m d, .slice C k e] : Array Value).all (·.oneCell') = true := by
  have h : ∀ (A : Option Addr) (n c : Nat), (Value.slice A n c).oneCell' = true := fun _ _ _ => rfl
  simp [h]
theorem Has.grown {B : Nat} {cs : Array Value} {t : TypeId} {w w' : World} {row : Option Nat} (h : Has B cs t w) (hg : w.grownBy w' row) (hr : ∀ q, row = some q → q ≠ B) : Has B cs t w' :=
  (hg.block B h.lt (fun e => hr B e.symm rfl)).trans h
theorem Has.typ {B : Nat} {cs cs' : Array Value} {t t' : TypeId} {w : World} (h : Has B cs t w) (h' : Has B cs' t' w) : t = t' := by
  unfold Has at h h'
  rw [h] at h'
  simp only [Option.some.injEq, Obj.cells.injEq] at h'
  exact h'.2.1
theorem Os.ne {e : TypeId} {base n c B : Nat} {A : Option Addr} {ys : List Ob.Y} {w : World} {cs : Array Value} {t : TypeId} (h : Os e base A n c ys w) (hB : Has B cs t w) (ht : t ≠ e) : ∀ q, (Value.slice A n c).ownBlock = some q → q ≠ B := fun q hq => by
  rcases h.cases with ⟨rfl, _⟩ | ⟨g, rfl, h⟩
  · cases hq
  · cases hq
    obtain ⟨_, _, _, _, cur, hh, _⟩ := h.has
    rintro rfl
    exact ht (hB.typ hh)
theorem On.ne {e : TypeId} {k : IntKind} {base n c B : Nat} {A : Option Addr} {xs : List Int} {w : World} {cs : Array Value} {t : TypeId} (h : On e k base A n c xs w) (hB : Has B cs t w) (ht : t ≠ e) : ∀ q, (Value.slice A n c).ownBlock = some q → q ≠ B := fun q hq => by
  rcases h.cases with ⟨rfl, _⟩ | ⟨g, rfl, h⟩
  · cases hq
  · cases hq
    have h : Ow e k base g n c xs w := h
    obtain ⟨_, _, _, _, cur, hh, _⟩ := h.has
    rintro rfl
    exact ht (hB.typ hh)
/-- a row of the call's own where a block that is not its own has turned -/
theorem Os.other {e : TypeId} {base n c B : Nat} {A : Option Addr} {ys : List Ob.Y} {w : World} {cs : Array Value} {t : TypeId} (h : Os e base A n c ys w) (hB : Has B cs t w) (ht : t ≠ e) (j : Nat) (v : Value) : Os e base A n c ys (w.setCell ⟨B, j, Option.none⟩ v) := by
  have hne := h.ne hB ht
  rcases h.cases with ⟨rfl, rfl, rfl, rfl⟩ | ⟨g, rfl, h⟩
  · exact Os.none _ _ _
  · obtain ⟨h1, h2, h3, h4, cur, h5, h6, h7⟩ := h.has
    exact Os.mk' h1 h2 h3 h4 cur (h5.other (hne g rfl) v) h6 h7
theorem On.other {e : TypeId} {k : IntKind} {base n c B : Nat} {A : Option Addr} {xs : List Int} {w : World} {cs : Array Value} {t : TypeId} (h : On e k base A n c xs w) (hB : Has B cs t w) (ht : t ≠ e) (j : Nat) (v : Value) : On e k base A n c xs (w.setCell ⟨B, j, Option.none⟩ v) := by
  have hne := h.ne hB ht
  rcases h.cases with ⟨rfl, rfl, rfl, rfl⟩ | ⟨g, rfl, h⟩
  · exact On.none _ _ _ _
  · have h : Ow e k base g n c xs w := h
    obtain ⟨h1, h2, h3, h4, cur, h5, h6, h7⟩ := h.has
    exact (Ow.mk' h1 h2 h3 h4 cur (h5.other (hne g rfl) v) h6 h7).on
theorem Os.otherRow {e : TypeId} {base n c B : Nat} {A : Option Addr} {ys : List Ob.Y} {w : World} {cs : Array Value} {t : TypeId} (h : Os e base A n c ys w) (hB : Has B cs t w) (ht : t ≠ e) (cs' : Array Value) : Os e base A n c ys (w.setRow B cs') := by
  have hne := h.ne hB ht
  rcases h.cases with ⟨rfl, rfl, rfl, rfl⟩ | ⟨g, rfl, h⟩
  · exact Os.none _ _ _
  · obtain ⟨h1, h2, h3, h4, cur, h5, h6, h7⟩ := h.has
    exact Os.mk' h1 h2 h3 h4 cur (h5.rowOther (hne g rfl) cs') h6 h7
theorem On.otherRow {e : TypeId} {k : IntKind} {base n c B : Nat} {A : Option Addr} {xs : List Int} {w : World} {cs : Array Value} {t : TypeId} (h : On e k base A n c xs w) (hB : Has B cs t w) (ht : t ≠ e) (cs' : Array Value) : On e k base A n c xs (w.setRow B cs') := by
  have hne := h.ne hB ht
  rcases h.cases with ⟨rfl, rfl, rfl, rfl⟩ | ⟨g, rfl, h⟩
  · exact On.none _ _ _ _
  · have h : Ow e k base g n c xs w := h
    obtain ⟨h1, h2, h3, h4, cur, h5, h6, h7⟩ := h.has
    exact (Ow.mk' h1 h2 h3 h4 cur (h5.rowOther (hne g rfl) cs') h6 h7).on
theorem Bel.setRow {N B : Nat} {a b : World} (h : Below N a b) (hB : N ≤ B) (cs : Array Value) : Below N a (b.setRow B cs) :=
  h.trans ⟨rfl, rfl, rfl, by simp [World.setRow], fun k hk => setRow_other b B k cs (by omega)⟩
/-- a name cut -/
def Ob.cut (s : ByteArray) : ByteArray := if s.size ≤ 20 then s else s.extract 0 20
theorem Ob.cut_size (s : ByteArray) : (Ob.cut s).size ≤ 20 := by
  unfold Ob.cut
  split
  · assumption
  · rw [ByteArray.size_extract]; omega
def Ob.cuts (ys : List Ob.Y) (k : Nat) : List Ob.Y := (ys.take k).map fun y => (Ob.cut y.1, y.2)
theorem Ob.cuts_succ {ys : List Ob.Y} {k : Nat} (hk : k < ys.length) : Ob.cuts ys (k + 1) = Ob.cuts ys k ++ [(Ob.cut (Ob.nm ys k), Ob.pl ys k)] := by
  unfold Ob.cuts
  rw [List.take_add_one, Ob.at_get hk, List.map_append]
  rfl
theorem Ob.cuts_size (ys : List Ob.Y) (k : Nat) : ∀ y ∈ Ob.cuts ys k, y.1.size ≤ 1000000 := fun y hy => by
  obtain ⟨z, _, rfl⟩ := List.mem_map.1 hy
  have := Ob.cut_size z.1
  show (Ob.cut z.1).size ≤ _
  omega
theorem Ob.cuts_len {ys : List Ob.Y} {k : Nat} (hk : k ≤ ys.length) : (Ob.cuts ys k).length = k := by
  unfold Ob.cuts
  rw [List.length_map, List.length_take]
  omega
theorem Kept.row2 {N : Nat} {a b : World} (h : Kept a b) (hN : N ≤ b.heap.size) (cs : Array Value) : Below N b (b.setRow N cs) :=
  ⟨rfl, rfl, rfl, by simp [World.setRow], fun k hk => setRow_other b N k cs (by omega)⟩
set_option maxRecDepth 100000 in
set_option maxHeartbeats 4000000 in
theorem Ob.few_any {w : World} {A B C : Option Addr} {n c m d k e : Nat} {ws ss : List Int} {ys : List Ob.Y} (hW : Wo w A n c ws) (hS : In w B m d ss) (hY : Sy w C k e ys) (hsz : ∀ y ∈ ys, y.1.size ≤ 9223372036854775807) :
    Calls Try.prog 9 #[.agg #[.slice A n c, .slice B m d, .slice C k e]] w fun r w' => ∃ C' e', r = .returned (.agg #[.slice A (min n 30) c, .slice B (min m 30) d, .slice C' (min k 12) e']) ∧ Os 69 w.heap.size C' (min k 12) e' (Ob.cuts ys (min k 12)) w' ∧ Below w.heap.size w w' := by
  have hO := Lib.hid ((Has.new #[.slice A n c, .slice B m d, .slice C k e] 26 w).alloc (.cells #[.slice none 0 0, .slice none 0 0, .slice none 0 0] 26))
  have hR := Lib.hid (Has.new1 #[.slice none 0 0, .slice none 0 0, .slice none 0 0] 26 w (.cells #[.slice A n c, .slice B m d, .slice C k e] 26))
  have hB := Lib.hid (((Kept.refl w).alloc #[.slice A n c, .slice B m d, .slice C k e] 26).alloc #[.slice none 0 0, .slice none 0 0, .slice none 0 0] 26).below
  have hle := hW.le
  have hmx := hW.max
  have hle2 := hY.le
  have hmx2 := hY.max
  have hle3 := hS.le
  have hmx3 := hS.max
  have hly := hY.len
  unfold maxLen at hmx hmx2 hmx3
  obtain ⟨n1, hn1⟩ : ∃ n1, n1 = min n 30 := ⟨_, rfl⟩
  obtain ⟨m1, hm1⟩ : ∃ m1, m1 = min m 30 := ⟨_, rfl⟩
  obtain ⟨k1, hk1⟩ : ∃ k1, k1 = min k 12 := ⟨_, rfl⟩
  rw [← hn1, ← hm1, ← hk1]
  have i1 : (if (30 : Int) < (n : Int) then (30 : Int) else n) = n1 := by split <;> omega
  have i2 : (if (30 : Int) < (m : Int) then (30 : Int) else m) = m1 := by split <;> omega
  have n1n : n1 ≤ c := by omega
  have m1m : m1 ≤ d := by omega
  replace hY := Lib.hid hY
  replace hn1 := Lib.hid hn1
  replace hm1 := Lib.hid hm1
  replace hk1 := Lib.hid hk1
  go_enter Try.func9, Try.ntmps9
  go_wp2_with (fail)
  generalize (w.alloc (.cells #[.slice A n c, .slice B m d, .slice C k e] 26)).alloc (.cells #[.slice none 0 0, .slice none 0 0, .slice none 0 0] 26) = w1 at *
  refine wp_region_held_drew (S := fun w' => Below w1.heap.size w1 w') (by kernel_rfl) ((Below.refl _ _).drew) (fun hHeld => ?_)
  replace hB := Lib.hid (hB.out.trans (hHeld.mono hB.out.size))
  replace hO := Lib.hid (hO.out.below hHeld)
  replace hR := Lib.hid (hR.out.below hHeld)
  refine wpAnyH_now _ _ _ _ hHeld (fun hHeld => ?_)
  generalize w1.drew = w1d at *
  refine wpAnyH_take (i := 0) (oi := { dst := some 6, op := Op.fieldAddr 26 (Operand.tmp 1) 0, type := 0, pos := "law.go:20", after := #[], guard := none }) (v := ?_) rfl (by kernel_rfl) (by kernel_rfl) (by kernel_rfl) (fun _ _ _ h => h) (Or.inl ⟨rfl, ?_⟩) hHeld ?_
  rotate_left
  · (intro wz hSw; go_simp; try with_reducible rfl)
  try simp only [Act.put, List.setIfInBounds_toArray, List.set_cons_zero, List.set_cons_succ]
  refine wpAnyH_take (i := 1) (oi := { dst := some 7, op := Op.load 22 (Operand.tmp 6), type := 22, pos := "law.go:20", after := #[{ on := 0, ground := Ground.data }], guard := none }) (v := ?_) rfl (by kernel_rfl) (by kernel_rfl) (by kernel_rfl) (fun _ _ _ h => h) (Or.inl ⟨rfl, ?_⟩) hHeld ?_
  rotate_left
  · (intro wz hSw; have o0 := (hO.out.below hSw).cell 0 (.slice A n c) rfl; go_simp; try with_reducible rfl)
  try simp only [Act.put, List.setIfInBounds_toArray, List.set_cons_zero, List.set_cons_succ]
  refine wpAnyH_take (i := 2) (oi := { dst := some 8, op := Op.fieldAddr 26 (Operand.tmp 1) 0, type := 0, pos := "law.go:20", after := #[], guard := none }) (v := ?_) rfl (by kernel_rfl) (by kernel_rfl) (by kernel_rfl) (fun _ _ _ h => h) (Or.inl ⟨rfl, ?_⟩) hHeld ?_
  rotate_left
  · (intro wz hSw; go_simp; try with_reducible rfl)
  try simp only [Act.put, List.setIfInBounds_toArray, List.set_cons_zero, List.set_cons_succ]
  refine wpAnyH_take (i := 3) (oi := { dst := some 9, op := Op.load 22 (Operand.tmp 8), type := 22, pos := "law.go:20", after := #[{ on := 2, ground := Ground.data }], guard := none }) (v := ?_) rfl (by kernel_rfl) (by kernel_rfl) (by kernel_rfl) (fun _ _ _ h => h) (Or.inl ⟨rfl, ?_⟩) hHeld ?_
  rotate_left
  · (intro wz hSw; have o0 := (hO.out.below hSw).cell 0 (.slice A n c) rfl; go_simp; try with_reducible rfl)
  try simp only [Act.put, List.setIfInBounds_toArray, List.set_cons_zero, List.set_cons_succ]
  refine wpAnyH_take (i := 4) (oi := { dst := some 10, op := Op.call { callee := Callee.builtin Builtin.len, args := #[Operand.tmp 9], argTypes := #[22] }, type := 3, pos := "law.go:20", after := #[{ on := 3, ground := Ground.data }], guard := none }) (v := ?_) rfl (by kernel_rfl) (by kernel_rfl) (by kernel_rfl) (fun _ _ _ h => h) (Or.inl ⟨rfl, ?_⟩) hHeld ?_
  rotate_left
  · (intro wz hSw; go_simp; try with_reducible rfl)
  try simp only [Act.put, List.setIfInBounds_toArray, List.set_cons_zero, List.set_cons_succ]
  refine wpAnyH_take (i := 5) (oi := { dst := some 11, op := Op.call { callee := Callee.builtin Builtin.min, args := #[Operand.tmp 10, Operand.const (Value.int IntKind.i64 30)], argTypes := #[3, 3] }, type := 3, pos := "law.go:20", after := #[{ on := 4, ground := Ground.data }], guard := none }) (v := ?_) rfl (by kernel_rfl) (by kernel_rfl) (by kernel_rfl) (fun _ _ _ h => h) (Or.inl ⟨rfl, ?_⟩) hHeld ?_
  rotate_left
  · (intro wz hSw; go_simp; (try simp only [i1, i2]); try with_reducible rfl)
  try simp only [Act.put, List.setIfInBounds_toArray, List.set_cons_zero, List.set_cons_succ]
  refine wpAnyH_take (i := 6) (oi := { dst := some 12, op := Op.slice 22 (Operand.tmp 7) none (some (Operand.tmp 11)) none, type := 22, pos := "law.go:20", after := #[{ on := 1, ground := Ground.data }, { on := 5, ground := Ground.data }], guard := none }) (v := ?_) rfl (by kernel_rfl) (by kernel_rfl) (by kernel_rfl) (fun _ _ _ h => h) (Or.inl ⟨rfl, ?_⟩) hHeld ?_
  rotate_left
  · (intro wz hSw; go_simp; try with_reducible rfl)
  try simp only [Act.put, List.setIfInBounds_toArray, List.set_cons_zero, List.set_cons_succ]
  refine wpAnyH_take (i := 7) (oi := { dst := some 13, op := Op.fieldAddr 26 (Operand.tmp 1) 1, type := 0, pos := "law.go:20", after := #[], guard := none }) (v := ?_) rfl (by kernel_rfl) (by kernel_rfl) (by kernel_rfl) (fun _ _ _ h => h) (Or.inl ⟨rfl, ?_⟩) hHeld ?_
  rotate_left
  · (intro wz hSw; go_simp; try with_reducible rfl)
  try simp only [Act.put, List.setIfInBounds_toArray, List.set_cons_zero, List.set_cons_succ]
  refine wpAnyH_take (i := 8) (oi := { dst := some 14, op := Op.load 23 (Operand.tmp 13), type := 23, pos := "law.go:20", after := #[{ on := 7, ground := Ground.data }], guard := none }) (v := ?_) rfl (by kernel_rfl) (by kernel_rfl) (by kernel_rfl) (fun _ _ _ h => h) (Or.inl ⟨rfl, ?_⟩) hHeld ?_
  rotate_left
  · (intro wz hSw; have o1 := (hO.out.below hSw).cell 1 (.slice B m d) rfl; go_simp; try with_reducible rfl)
  try simp only [Act.put, List.setIfInBounds_toArray, List.set_cons_zero, List.set_cons_succ]
  refine wpAnyH_take (i := 9) (oi := { dst := some 15, op := Op.fieldAddr 26 (Operand.tmp 1) 1, type := 0, pos := "law.go:20", after := #[], guard := none }) (v := ?_) rfl (by kernel_rfl) (by kernel_rfl) (by kernel_rfl) (fun _ _ _ h => h) (Or.inl ⟨rfl, ?_⟩) hHeld ?_
  rotate_left
  · (intro wz hSw; go_simp; try with_reducible rfl)
  try simp only [Act.put, List.setIfInBounds_toArray, List.set_cons_zero, List.set_cons_succ]
  refine wpAnyH_take (i := 10) (oi := { dst := some 16, op := Op.load 23 (Operand.tmp 15), type := 23, pos := "law.go:20", after := #[{ on := 9, ground := Ground.data }], guard := none }) (v := ?_) rfl (by kernel_rfl) (by kernel_rfl) (by kernel_rfl) (fun _ _ _ h => h) (Or.inl ⟨rfl, ?_⟩) hHeld ?_
  rotate_left
  · (intro wz hSw; have o1 := (hO.out.below hSw).cell 1 (.slice B m d) rfl; go_simp; try with_reducible rfl)
  try simp only [Act.put, List.setIfInBounds_toArray, List.set_cons_zero, List.set_cons_succ]
  refine wpAnyH_take (i := 11) (oi := { dst := some 17, op := Op.call { callee := Callee.builtin Builtin.len, args := #[Operand.tmp 16], argTypes := #[23] }, type := 3, pos := "law.go:20", after := #[{ on := 10, ground := Ground.data }], guard := none }) (v := ?_) rfl (by kernel_rfl) (by kernel_rfl) (by kernel_rfl) (fun _ _ _ h => h) (Or.inl ⟨rfl, ?_⟩) hHeld ?_
  rotate_left
  · (intro wz hSw; go_simp; try with_reducible rfl)
  try simp only [Act.put, List.setIfInBounds_toArray, List.set_cons_zero, List.set_cons_succ]
  refine wpAnyH_take (i := 12) (oi := { dst := some 18, op := Op.call { callee := Callee.builtin Builtin.min, args := #[Operand.tmp 17, Operand.const (Value.int IntKind.i64 30)], argTypes := #[3, 3] }, type := 3, pos := "law.go:20", after := #[{ on := 11, ground := Ground.data }], guard := none }) (v := ?_) rfl (by kernel_rfl) (by kernel_rfl) (by kernel_rfl) (fun _ _ _ h => h) (Or.inl ⟨rfl, ?_⟩) hHeld ?_
  rotate_left
  · (intro wz hSw; go_simp; (try simp only [i1, i2]); try with_reducible rfl)
  try simp only [Act.put, List.setIfInBounds_toArray, List.set_cons_zero, List.set_cons_succ]
  refine wpAnyH_take (i := 13) (oi := { dst := some 19, op := Op.slice 23 (Operand.tmp 14) none (some (Operand.tmp 18)) none, type := 23, pos := "law.go:20", after := #[{ on := 8, ground := Ground.data }, { on := 12, ground := Ground.data }], guard := none }) (v := ?_) rfl (by kernel_rfl) (by kernel_rfl) (by kernel_rfl) (fun _ _ _ h => h) (Or.inl ⟨rfl, ?_⟩) hHeld ?_
  rotate_left
  · (intro wz hSw; go_simp; try with_reducible rfl)
  try simp only [Act.put, List.setIfInBounds_toArray, List.set_cons_zero, List.set_cons_succ]
  refine wpAnyH_take (i := 14) (oi := { dst := some 20, op := Op.build 26 #[(0, Operand.tmp 12), (1, Operand.tmp 19)], type := 26, pos := "law.go:20", after := #[{ on := 6, ground := Ground.data }, { on := 13, ground := Ground.data }], guard := none }) (v := ?_) rfl (by kernel_rfl) (by kernel_rfl) (by kernel_rfl) (fun _ _ _ h => h) (Or.inl ⟨rfl, ?_⟩) hHeld ?_
  rotate_left
  · (intro wz hSw; go_simp; try with_reducible rfl)
  try simp only [Act.put, List.setIfInBounds_toArray, List.set_cons_zero, List.set_cons_succ]
  refine wpAnyH_ready (rs := [15]) (by kernel_rfl) (by simp) ?_
  refine AllReadyH.cons (o := { dst := some 3, op := Op.alloc 26, type := 0, pos := "law.go:20", after := #[], guard := none }) rfl (fun K hK => ?_) AllReadyH.nil
  go_simp
  have hE := ((Kept.refl w1d).alloc #[.slice none 0 0, .slice none 0 0, .slice none 0 0] 26).below
  have hb2 := Lib.hid hE
  have hG0 := hR.out.lt
  have hG := Has.new #[.slice none 0 0, .slice none 0 0, .slice none 0 0] 26 w1d
  generalize w1d.alloc (.cells #[.slice none 0 0, .slice none 0 0, .slice none 0 0] 26) = w2 at *
  clear hHeld
  refine hK.out _ _ hE (fun hHeld => ?_)
  clear hK K hE
  try simp only [Act.put, List.setIfInBounds_toArray, List.set_cons_zero, List.set_cons_succ]
  refine wpAnyH_ready (rs := [16]) (by kernel_rfl) (by simp) ?_
  refine AllReadyH.cons (o := { dst := none, op := Op.store 26 (Operand.tmp 3) (Operand.tmp 20), type := 0, pos := "law.go:20", after := #[{ on := 15, ground := Ground.data }, { on := 14, ground := Ground.data }, { on := 0, ground := Ground.phase }, { on := 1, ground := Ground.phase }, { on := 2, ground := Ground.phase }, { on := 3, ground := Ground.phase }, { on := 4, ground := Ground.phase }, { on := 5, ground := Ground.phase }, { on := 6, ground := Ground.phase }, { on := 7, ground := Ground.phase }, { on := 8, ground := Ground.phase }, { on := 9, ground := Ground.phase }, { on := 10, ground := Ground.phase }, { on := 11, ground := Ground.phase }, { on := 12, ground := Ground.phase }, { on := 13, ground := Ground.phase }, { on := 14, ground := Ground.phase }, { on := 15, ground := Ground.phase }], guard := none }) rfl (fun K hK => ?_) AllReadyH.nil
  refine wp_store_row 26 (.tmp 3) (.tmp 20) rfl w1d.heap.size #[.slice A n1 c, .slice B m1 d, .slice none 0 0] rfl rfl 26 _ hG (Ob.info26 _ _ _) rfl (Ob.oneS _ _ _ _ _ _ _ _ _) ?_
  replace hG := hG.row #[.slice A n1 c, .slice B m1 d, .slice none 0 0]
  have hE := (hb2.out.trans ((Kept.refl w2).row2 hb2.out.size #[.slice A n1 c, .slice B m1 d, .slice none 0 0]))
  have hE1 := Lib.hid hE
  replace hG := Lib.hid hG
  generalize w2.setRow w1d.heap.size #[.slice A n1 c, .slice B m1 d, .slice none 0 0] = w3 at *
  clear hHeld
  refine hK.out _ _ hE (fun hHeld => ?_)
  clear hK K
  replace hB := Lib.hid (hB.out.trans (hE.mono hB.out.size))
  replace hO := Lib.hid (hO.out.below hE)
  replace hR := Lib.hid (hR.out.below hE)
  refine wpAnyH_now _ _ _ _ hE (fun hHeld => ?_)
  clear hE
  try simp only [Act.put, List.setIfInBounds_toArray, List.set_cons_zero, List.set_cons_succ]
  refine wpAnyH_done (by kernel_rfl) ?_ _
  clear hE1 hb2
  generalize w1d.heap.size = G at *
  go_wp2
  go_loopw [4] (fun i wr => ∃ (j : Nat) (C' : Option Addr) (c' : Nat), j ≤ k1 ∧ i = .int .i64 j ∧ Has G #[.slice A n1 c, .slice B m1 d, .slice C' j c'] 26 wr ∧ Os 69 w.heap.size C' j c' (Ob.cuts ys j) wr ∧ Has w.heap.size #[.slice A n c, .slice B m d, .slice C k e] 26 wr ∧ Has (w.heap.size + 1) #[.slice none 0 0, .slice none 0 0, .slice none 0 0] 26 wr ∧ Below w.heap.size w wr) (fun i _ => k1 - (intOf i).toNat)
  case atStart => exact ⟨0, none, 0, Nat.zero_le _, rfl, hG.out, Os.none _ _ _, hO.out, hR.out, hB.out⟩
  case round =>
    clear hG hO hR hB
    obtain ⟨j, C', c', hj, rfl, hG, hP, hO, hR, hB⟩ := hrel
    have hkk := hk1.out
    have o2 := hO.cell 2 (.slice C k e) rfl
    by_cases d1 : j < k1
    · have d2 : (j : Int) < k := by omega
      have d3 : (j : Int) < 12 := by omega
      obtain ⟨b, off, rfl⟩ := hY.out.place (by omega)
      have g1 := (hY.out.below hB).name j (by omega)
      have g2 := (hY.out.below hB).at j (by omega)
      have g3 := hG.cell 2 (.slice C' j c') rfl
      have R := Lib.hid (Ob.cuts_succ (ys := ys) (k := j) (by omega))
      have hs := Ob.size_at hsz j
      clear hkk
      generalize Ob.nm ys j = s at *
      generalize Ob.pl ys j = p at *
      have key : ∀ t : ByteArray, Ob.cut s = t → Os 69 w.heap.size C' j c' (Ob.cuts ys j) ((wr.alloc (.cells #[.string t, .int .i64 p] 69)).alloc (.cells #[.string t, .int .i64 p] 69)) ∧ Sy ((wr.alloc (.cells #[.string t, .int .i64 p] 69)).alloc (.cells #[.string t, .int .i64 p] 69)) (some ⟨wr.heap.size + 1, 0, none⟩) 1 1 [(t, p)] := fun t _ =>
        ⟨(hP.below (((Kept.refl wr).alloc #[.string t, .int .i64 p] 69).alloc #[.string t, .int .i64 p] 69).below), Sy.one (Has.new1 _ _ _ _)⟩
      have hpq : k1 ≤ 12 := by have := hk1.out; omega
      have hA2 := fun t : ByteArray => (((Kept.refl wr).alloc #[.string t, .int .i64 p] 69).alloc #[.string t, .int .i64 p] 69).below
      have hs0 := fun t : ByteArray => Nat.le_trans hB.size (hA2 t).size
      replace hO := Lib.hid hO
      replace hR := Lib.hid hR
      replace hG := Lib.hid hG
      replace hB := Lib.hid hB
      replace hs0 := Lib.hid hs0
      replace hA2 := Lib.hid hA2
      replace key := Lib.hid key
      clear hP
      by_cases d4 : s.size ≤ 20
      · have d5 : ¬ (20 : Int) < (s.size : Int) := by omega
        have e1 : Ob.cut s = s := by unfold Ob.cut; rw [if_pos d4]
        rw [e1] at R
        have hkey := Lib.hid (key.out s e1)
        clear e1 key
        have g4 := Below.newCell g3 (.cells #[.string (s), .int .i64 p] 69)
        have hs1 := hs0.out (s)
        clear g3
        go_wp2_with (first
          | (with_reducible refine append_sy (o := ⟨some 49, _, _, _, _, _⟩) Try.underlying24 Ob.info39 rfl (by omega) rfl (.tmp 46) (.tmp 48) rfl w.heap.size C' j c' (Ob.cuts ys j) rfl hkey.out.1 _ 1 1 [(s, p)] rfl hkey.out.2 (by omega) hs1 (Or.inr (by omega)) ?_
             intro g' cap' w6 hO6 hG6
             have q1 := (hG.out.below (hA2.out (s))).grown hG6 (hkey.out.1.ne (hG.out.below (hA2.out (s))) (by decide))
             have q2 := (hO.out.below (hA2.out (s))).grown hG6 (hkey.out.1.ne (hO.out.below (hA2.out (s))) (by decide))
             have q3 := (hR.out.below (hA2.out (s))).grown hG6 (hkey.out.1.ne (hR.out.below (hA2.out (s))) (by decide))
             have q4 := Lib.hid ((hB.out.trans ((hA2.out (s)).mono hB.out.size)).grown hG6 hs1 hkey.out.1.from)
             have f1 := q1.cell 2 (.slice C' j c') rfl
             have f2 := q1.free 2
             rw [← R.out] at hO6
             have q5 := Lib.hid (q1.set 2 (.slice (some ⟨g', 0, none⟩) (j + 1) cap'))
             have q6 := Lib.hid (hO6.other q1 (by decide) 2 (.slice (some ⟨g', 0, none⟩) (j + 1) cap'))
             have q7 := Lib.hid (q2.other (p := ⟨G, 2, none⟩) (by show w.heap.size ≠ G; omega) (.slice (some ⟨g', 0, none⟩) (j + 1) cap'))
             have q8 := Lib.hid (q3.other (p := ⟨G, 2, none⟩) (by show w.heap.size + 1 ≠ G; omega) (.slice (some ⟨g', 0, none⟩) (j + 1) cap'))
             have q9 := Lib.hid (q4.out.setCell (p := ⟨G, 2, none⟩) (by show w.heap.size ≤ G; omega) (.slice (some ⟨g', 0, none⟩) (j + 1) cap'))
             clear q1 q2 q3 q4 hO6 hG6 hkey hs1 g4))
        go_roundw
        case rel => exact ⟨j + 1, some ⟨g', 0, none⟩, cap', by omega, by go_num, q5.out, q6.out, q7.out, q8.out, q9.out⟩
        case measure => simp [intOf]; omega
      · have d5 : (20 : Int) < (s.size : Int) := by omega
        have e1 : Ob.cut s = s.extract 0 20 := by unfold Ob.cut; rw [if_neg d4]
        rw [e1] at R
        have hkey := Lib.hid (key.out _ e1)
        clear e1 key
        have g4 := Below.newCell g3 (.cells #[.string (s.extract 0 20), .int .i64 p] 69)
        have hs1 := hs0.out (s.extract 0 20)
        clear g3
        go_wp2_with (first
          | (with_reducible refine append_sy (o := ⟨some 49, _, _, _, _, _⟩) Try.underlying24 Ob.info39 rfl (by omega) rfl (.tmp 46) (.tmp 48) rfl w.heap.size C' j c' (Ob.cuts ys j) rfl hkey.out.1 _ 1 1 [(s.extract 0 20, p)] rfl hkey.out.2 (by omega) hs1 (Or.inr (by omega)) ?_
             intro g' cap' w6 hO6 hG6
             have q1 := (hG.out.below (hA2.out (s.extract 0 20))).grown hG6 (hkey.out.1.ne (hG.out.below (hA2.out (s.extract 0 20))) (by decide))
             have q2 := (hO.out.below (hA2.out (s.extract 0 20))).grown hG6 (hkey.out.1.ne (hO.out.below (hA2.out (s.extract 0 20))) (by decide))
             have q3 := (hR.out.below (hA2.out (s.extract 0 20))).grown hG6 (hkey.out.1.ne (hR.out.below (hA2.out (s.extract 0 20))) (by decide))
             have q4 := Lib.hid ((hB.out.trans ((hA2.out (s.extract 0 20)).mono hB.out.size)).grown hG6 hs1 hkey.out.1.from)
             have f1 := q1.cell 2 (.slice C' j c') rfl
             have f2 := q1.free 2
             rw [← R.out] at hO6
             have q5 := Lib.hid (q1.set 2 (.slice (some ⟨g', 0, none⟩) (j + 1) cap'))
             have q6 := Lib.hid (hO6.other q1 (by decide) 2 (.slice (some ⟨g', 0, none⟩) (j + 1) cap'))
             have q7 := Lib.hid (q2.other (p := ⟨G, 2, none⟩) (by show w.heap.size ≠ G; omega) (.slice (some ⟨g', 0, none⟩) (j + 1) cap'))
             have q8 := Lib.hid (q3.other (p := ⟨G, 2, none⟩) (by show w.heap.size + 1 ≠ G; omega) (.slice (some ⟨g', 0, none⟩) (j + 1) cap'))
             have q9 := Lib.hid (q4.out.setCell (p := ⟨G, 2, none⟩) (by show w.heap.size ≤ G; omega) (.slice (some ⟨g', 0, none⟩) (j + 1) cap'))
             clear q1 q2 q3 q4 hO6 hG6 hkey hs1 g4))
        go_roundw
        case rel => exact ⟨j + 1, some ⟨g', 0, none⟩, cap', by omega, by go_num, q5.out, q6.out, q7.out, q8.out, q9.out⟩
        case measure => simp [intOf]; omega
    · obtain rfl : j = k1 := by omega
      have f0 := hG.cell 0 (.slice A n1 c) rfl
      have f1 := hG.cell 1 (.slice B m1 d) rfl
      have f2 := hG.cell 2 (.slice C' j c') rfl
      replace hR := Lib.hid hR
      replace hP := Lib.hid hP
      replace hB := Lib.hid hB
      have hkc : j < k → ¬ (j : Int) < 12 := by omega
      clear hkk
      by_cases d2 : j < k
      · have d3 : (j : Int) < k := by omega
        have d4 := hkc d2
        clear hkc
        go_wp2_with (with_reducible refine store_has (o := ⟨none, _, _, _, _, _⟩) rfl 26 (.tmp 2) (.tmp 51) rfl (w.heap.size + 1) #[.slice A n1 c, .slice B m1 d, .slice C' j c'] rfl rfl hR.out (Ob.info26 _ _ _) rfl (Ob.oneS _ _ _ _ _ _ _ _ _) ?_)
        refine bodyPost_ret (results_has rfl (w.heap.size + 1) rfl (hR.out.row _) Try.underlying26 rfl (Ob.info26 _ _ _)) rfl ?_
        exact ⟨C', c', rfl, hP.out.otherRow hR.out (by decide) _, Bel.setRow hB.out (by omega) _⟩
      · have d3 : ¬ (j : Int) < k := by omega
        clear hkc
        go_wp2_with (with_reducible refine store_has (o := ⟨none, _, _, _, _, _⟩) rfl 26 (.tmp 2) (.tmp 51) rfl (w.heap.size + 1) #[.slice A n1 c, .slice B m1 d, .slice C' j c'] rfl rfl hR.out (Ob.info26 _ _ _) rfl (Ob.oneS _ _ _ _ _ _ _ _ _) ?_)
        refine bodyPost_ret (results_has rfl (w.heap.size + 1) rfl (hR.out.row _) Try.underlying26 rfl (Ob.info26 _ _ _)) rfl ?_
        exact ⟨C', c', rfl, hP.out.otherRow hR.out (by decide) _, Bel.setRow hB.out (by omega) _⟩
end Go.Proofs.Ytpfgmfiegnkocaa
