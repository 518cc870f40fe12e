/-
  Joined: Du2, Du11, ObV.
-/
import Derived.Lib.Bytealg
import Derived.Lib.CutLaws
import Derived.Lib.BufferWrite
import Derived.Laws.MakeOwn
import Derived.Test.YtpfejjkoemnmiaaDu1
import Derived.Test.YtpfejjkoemnmiaaDu5
import Derived.Test.YtpfejjkoemnmiaaObQ
/-
  What package dump uses of package strings: Cut at one byte, Clone.
-/
namespace Go.Proofs.Ytpfejjkoemnmiaa
open Go.RowKit
set_option linter.unusedVariables false
set_option linter.unusedSimpArgs false
set_option maxRecDepth 100000
set_option maxRecDepth 100000
theorem Du.index_cases (c : UInt8) : ∀ l : List UInt8, (Lib.indexByte l c = -1 ∧ c ∉ l) ∨ ∃ i : Nat, i < l.length ∧ Lib.indexByte l c = i ∧ l = l.take i ++ c :: l.drop (i + 1) ∧ c ∉ l.take i
  | [] => Or.inl ⟨rfl, by simp⟩
  | b :: l => by
    unfold Lib.indexByte
    by_cases h : b = c
    · subst h
      exact Or.inr ⟨0, by simp, by simp, by simp, by simp⟩
    · have h2 : (b == c) = false := by simpa using h
      rw [h2]
      rcases Du.index_cases c l with ⟨q, r⟩ | ⟨i, h0, q, e, r⟩
      · rw [q]
        exact Or.inl ⟨rfl, fun m => by rcases List.mem_cons.1 m with m | m; exact h m.symm; exact r m⟩
      · refine Or.inr ⟨i + 1, by simp; omega, ?_, ?_, ?_⟩
        · rw [q]
          have : ((i : Int) == -1) = false := by simp
          rw [this]
          simp
        · rw [List.take_succ_cons, List.drop_succ_cons, List.cons_append, ← e]
        · rw [List.take_succ_cons]
          exact fun m => by rcases List.mem_cons.1 m with m | m; exact h m.symm; exact r m
theorem Du.bs_extract (s : ByteArray) (a b : Nat) : L.bs (s.extract a b) = ((L.bs s).drop a).take (b - a) := by
  unfold L.bs
  rw [Lib.extract_data, List.map_take, List.map_drop]
theorem Du.mem_bs (c : UInt8) (l : List UInt8) : ((c.toNat : Int) ∈ l.map fun b => (b.toNat : Int)) ↔ c ∈ l := by
  rw [List.mem_map]
  constructor
  · rintro ⟨b, hb, e⟩
    have : b = c := UInt8.toNat_inj.1 (by omega)
    exact this ▸ hb
  · exact fun h => ⟨c, h, rfl⟩
/-- what Cut hands back -/
def Du.CutR (c : UInt8) (s : ByteArray) (e : Ending) : Prop :=
  (((c.toNat : Int) ∉ L.bs s) ∧ e = .returned (.tuple #[.string s, .string ⟨#[]⟩, .bool false])) ∨ ∃ x y : ByteArray, L.bs s = L.bs x ++ (c.toNat : Int) :: L.bs y ∧ ((c.toNat : Int) ∉ L.bs x) ∧ e = .returned (.tuple #[.string x, .string y, .bool true])
set_option maxHeartbeats 2000000 in
set_option maxRecDepth 100000 in
theorem Du.indexByte_any (s : ByteArray) (c : UInt8) (w : World) :
    Calls Try.prog 76 #[.string s, .int .u8 c.toNat] w fun e w' => e = .returned (.int .i64 (Lib.indexByte s.data.toList c)) ∧ w = w' := by
  have hc : ((c.toNat : Int)).toNat.toUInt8 = c := by simp
  go_enter Try.func76, Try.ntmps76
  go_wp2
  rw [run_callFunc_extern Try.func83 (by kernel_rfl) (by kernel_rfl) (by kernel_rfl) (e := Extern.BytealgIndexByte.indexByte) (by kernel_rfl)]
  rw [Lib.run_indexByteString, hc]
  simp only [Result.andThen]
  rw [Oper.upon_value]
  go_wp2
  go_ret
  exact ⟨rfl, rfl⟩
set_option maxHeartbeats 2000000 in
set_option maxRecDepth 100000 in
theorem Du.index_any (s : ByteArray) (c : UInt8) (w : World) :
    Calls Try.prog 69 #[.string s, .string ⟨#[c]⟩] w fun e w' => e = .returned (.int .i64 (Lib.indexByte s.data.toList c)) ∧ w = w' := by
  go_enter Try.func69, Try.ntmps69
  go_wp2_with (first
    | (go_at_call 76; refine (Du.indexByte_any _ _ _).mono ?_; rintro e w' ⟨rfl, rfl⟩)
    | fail)
  · have h : ([c] == s.toList) = true := by assumption
    go_ret
    refine ⟨?_, rfl⟩
    have e : s.data.toList = [c] := by rw [← Lib.toList_data]; exact (beq_iff_eq.1 h).symm
    rw [e]
    simp [Lib.indexByte]
  · go_ret
    exact ⟨rfl, rfl⟩
set_option maxHeartbeats 2000000 in
set_option maxRecDepth 100000 in
theorem Du.lcut_any (s : ByteArray) (c : UInt8) (w : World) (hs : s.size ≤ 1000000000) :
    Calls Try.prog 52 #[.string s, .string ⟨#[c]⟩] w fun e w' => Du.CutR c s e ∧ Below w.heap.size w w' := by
  rcases Du.index_cases c s.data.toList with ⟨q, r⟩ | ⟨i, h0, q, e, r⟩
  · have hR : Du.CutR c s (.returned (.tuple #[.string s, .string ⟨#[]⟩, .bool false])) := Or.inl ⟨fun m => r ((Du.mem_bs c _).1 m), rfl⟩
    have hI := fun v => Du.index_any s c v
    rw [q] at hI
    replace hI := Lib.hid hI
    replace hR := Lib.hid hR
    clear q r
    go_enter Try.func52, Try.ntmps52
    go_wp2_with (first
      | (go_at_call 69; refine (hI.out _).mono ?_; rintro e w' ⟨rfl, rfl⟩)
      | fail)
    go_ret3
    exact ⟨hR.out, Below.refl _ _⟩
  · have hsz : s.data.toList.length = s.size := by rw [Array.length_toList]; rfl
    rw [hsz] at h0
    have hR : Du.CutR c s (.returned (.tuple #[.string (s.extract 0 i), .string (s.extract (i + 1) s.size), .bool true])) := by
      refine Or.inr ⟨_, _, ?_, ?_, rfl⟩
      · rw [Du.bs_extract, Du.bs_extract, List.drop_zero, Nat.sub_zero, List.take_of_length_le (i := s.size - (i + 1)) (by rw [List.length_drop, L.bs_len]; exact Nat.le_refl _)]
        unfold L.bs
        conv => lhs; rw [e]
        rw [List.map_append, List.map_cons, List.map_take, List.map_drop]
      · rw [Du.bs_extract, List.drop_zero, Nat.sub_zero]
        unfold L.bs
        rw [← List.map_take]
        exact fun m => r ((Du.mem_bs c _).1 m)
    have hI := fun v => Du.index_any s c v
    rw [q] at hI
    replace hI := Lib.hid hI
    replace hR := Lib.hid hR
    have c1 : (0 : Int) ≤ ↑i := by omega
    have c2 : (↑i : Int) ≤ ↑s.size := by omega
    have c3 : (0 : Int) ≤ ↑i + 1 := by omega
    have c4 : (↑i + 1 : Int) ≤ ↑s.size := by omega
    clear q r e hsz
    have hb := Lib.hid (Below.drew (Below.refl w.heap.size w))
    go_enter Try.func52, Try.ntmps52
    go_wp2_with (first
      | (go_at_call 69; refine (hI.out _).mono ?_; rintro e w' ⟨rfl, rfl⟩)
      | fail)
    have q1 : IntKind.i64.wrap ((i : Int) + 1) = (i : Int) + 1 := by rw [IntKind.wrap_i64]; omega
    refine wp_region_held_drew (S := fun w' => Below w.heap.size w w') (by kernel_rfl) ?_ (fun hHeld => ?_)
    · exact hb.out
    refine wpAnyH_take (i := 0) (oi := { dst := some 13, op := Op.move (Operand.tmp 0), type := 9, pos := "strings.go:82", after := #[], guard := none }) (v := ?_) rfl (by kernel_rfl) (by kernel_rfl) (by kernel_rfl) (fun _ _ _ h => h) (Or.inl ⟨rfl, ?_⟩) hHeld ?_
    rotate_left
    · (intro wz hSw; (try dsimp only at hSw); go_simp; try with_reducible rfl)
    try simp only [Act.put, List.setIfInBounds_toArray, List.set_cons_zero, List.set_cons_succ]
    refine wpAnyH_take (i := 1) (oi := { dst := some 14, op := Op.move (Operand.tmp 7), type := 3, pos := "strings.go:82", after := #[], guard := none }) (v := ?_) rfl (by kernel_rfl) (by kernel_rfl) (by kernel_rfl) (fun _ _ _ h => h) (Or.inl ⟨rfl, ?_⟩) hHeld ?_
    rotate_left
    · (intro wz hSw; (try dsimp only at hSw); go_simp; try with_reducible rfl)
    try simp only [Act.put, List.setIfInBounds_toArray, List.set_cons_zero, List.set_cons_succ]
    refine wpAnyH_take (i := 2) (oi := { dst := some 15, op := Op.slice 9 (Operand.tmp 13) none (some (Operand.tmp 14)) none, type := 9, pos := "strings.go:82", after := #[{ on := 0, ground := Ground.data }, { on := 1, ground := Ground.data }], guard := none }) (v := ?_) rfl (by kernel_rfl) (by kernel_rfl) (by kernel_rfl) (fun _ _ _ h => h) (Or.inl ⟨rfl, ?_⟩) hHeld ?_
    rotate_left
    · (intro wz hSw; (try dsimp only at hSw); go_simp; try with_reducible rfl)
    try simp only [Act.put, List.setIfInBounds_toArray, List.set_cons_zero, List.set_cons_succ]
    refine wpAnyH_take (i := 3) (oi := { dst := some 16, op := Op.move (Operand.tmp 0), type := 9, pos := "strings.go:82", after := #[], guard := none }) (v := ?_) rfl (by kernel_rfl) (by kernel_rfl) (by kernel_rfl) (fun _ _ _ h => h) (Or.inl ⟨rfl, ?_⟩) hHeld ?_
    rotate_left
    · (intro wz hSw; (try dsimp only at hSw); go_simp; try with_reducible rfl)
    try simp only [Act.put, List.setIfInBounds_toArray, List.set_cons_zero, List.set_cons_succ]
    refine wpAnyH_take (i := 4) (oi := { dst := some 17, op := Op.move (Operand.tmp 7), type := 3, pos := "strings.go:82", after := #[], guard := none }) (v := ?_) rfl (by kernel_rfl) (by kernel_rfl) (by kernel_rfl) (fun _ _ _ h => h) (Or.inl ⟨rfl, ?_⟩) hHeld ?_
    rotate_left
    · (intro wz hSw; (try dsimp only at hSw); go_simp; try with_reducible rfl)
    try simp only [Act.put, List.setIfInBounds_toArray, List.set_cons_zero, List.set_cons_succ]
    refine wpAnyH_take (i := 5) (oi := { dst := some 18, op := Op.move (Operand.tmp 1), type := 9, pos := "strings.go:82", after := #[], guard := none }) (v := ?_) rfl (by kernel_rfl) (by kernel_rfl) (by kernel_rfl) (fun _ _ _ h => h) (Or.inl ⟨rfl, ?_⟩) hHeld ?_
    rotate_left
    · (intro wz hSw; (try dsimp only at hSw); go_simp; try with_reducible rfl)
    try simp only [Act.put, List.setIfInBounds_toArray, List.set_cons_zero, List.set_cons_succ]
    refine wpAnyH_take (i := 9) (oi := { dst := some 4, op := Op.assign (Operand.tmp 15), type := 9, pos := "strings.go:82", after := #[{ on := 2, ground := Ground.data }, { on := 0, ground := Ground.phase }, { on := 1, ground := Ground.phase }, { on := 2, ground := Ground.phase }, { on := 3, ground := Ground.textOnly Departure.lateStores }, { on := 4, ground := Ground.textOnly Departure.lateStores }, { on := 5, ground := Ground.textOnly Departure.lateStores }, { on := 6, ground := Ground.textOnly Departure.lateStoresUnsure }, { on := 7, ground := Ground.textOnly Departure.lateStores }, { on := 8, ground := Ground.textOnly Departure.lateStoresUnsure }], guard := none }) (v := ?_) rfl (by kernel_rfl) (by kernel_rfl) (by kernel_rfl) (fun _ _ _ h => h) (Or.inl ⟨rfl, ?_⟩) hHeld ?_
    rotate_left
    · (intro wz hSw; (try dsimp only at hSw); go_simp; try with_reducible rfl)
    try simp only [Act.put, List.setIfInBounds_toArray, List.set_cons_zero, List.set_cons_succ]
    refine wpAnyH_ready (rs := [6]) (by kernel_rfl) (by simp) ?_
    refine AllReadyH.cons (o := { dst := some 19, op := Op.call { callee := Callee.builtin Builtin.len, args := #[Operand.tmp 18], argTypes := #[9] }, type := 3, pos := "strings.go:82", after := #[{ on := 5, ground := Ground.data }], guard := none }) rfl (fun K hK => ?_) (AllReadyH.nil)
    go_simp
    have hN := (show (fun w' => Below w.heap.size w w') _ from hb.out)
    clear hHeld
    refine hK.out _ _ hN (fun hHeld => ?_)
    clear hK K hN
    try simp only [Act.put, List.setIfInBounds_toArray, List.set_cons_zero, List.set_cons_succ]
    refine wpAnyH_take (i := 7) (oi := { dst := some 20, op := Op.binOp BinOp.add 3 (Operand.tmp 17) (Operand.tmp 19) 3, type := 3, pos := "strings.go:82", after := #[{ on := 4, ground := Ground.data }, { on := 6, ground := Ground.data }], guard := none }) (v := ?_) rfl (by kernel_rfl) (by kernel_rfl) (by kernel_rfl) (fun _ _ _ h => h) (Or.inl ⟨rfl, ?_⟩) hHeld ?_
    rotate_left
    · (intro wz hSw; go_simp; (try simp only [q1]); try with_reducible rfl)
    try simp only [Act.put, List.setIfInBounds_toArray, List.set_cons_zero, List.set_cons_succ]
    refine wpAnyH_take (i := 8) (oi := { dst := some 21, op := Op.slice 9 (Operand.tmp 16) (some (Operand.tmp 20)) none none, type := 9, pos := "strings.go:82", after := #[{ on := 3, ground := Ground.data }, { on := 7, ground := Ground.data }], guard := none }) (v := ?_) rfl (by kernel_rfl) (by kernel_rfl) (by kernel_rfl) (fun _ _ _ h => h) (Or.inl ⟨rfl, ?_⟩) hHeld ?_
    rotate_left
    · (intro wz hSw; (try dsimp only at hSw); go_simp; try with_reducible rfl)
    try simp only [Act.put, List.setIfInBounds_toArray, List.set_cons_zero, List.set_cons_succ]
    refine wpAnyH_take (i := 10) (oi := { dst := some 5, op := Op.assign (Operand.tmp 21), type := 9, pos := "strings.go:82", after := #[{ on := 8, ground := Ground.data }, { on := 9, ground := Ground.chain }, { on := 0, ground := Ground.phase }, { on := 1, ground := Ground.phase }, { on := 2, ground := Ground.phase }, { on := 3, ground := Ground.phase }, { on := 4, ground := Ground.phase }, { on := 5, ground := Ground.phase }, { on := 6, ground := Ground.phase }, { on := 7, ground := Ground.phase }, { on := 8, ground := Ground.phase }, { on := 9, ground := Ground.phase }], guard := none }) (v := ?_) rfl (by kernel_rfl) (by kernel_rfl) (by kernel_rfl) (fun _ _ _ h => h) (Or.inl ⟨rfl, ?_⟩) hHeld ?_
    rotate_left
    · (intro wz hSw; (try dsimp only at hSw); go_simp; try with_reducible rfl)
    try simp only [Act.put, List.setIfInBounds_toArray, List.set_cons_zero, List.set_cons_succ]
    refine wpAnyH_take (i := 11) (oi := { dst := some 6, op := Op.assign (Operand.const (Value.bool true)), type := 4, pos := "strings.go:82", after := #[{ on := 10, ground := Ground.chain }, { on := 0, ground := Ground.phase }, { on := 1, ground := Ground.phase }, { on := 2, ground := Ground.phase }, { on := 3, ground := Ground.phase }, { on := 4, ground := Ground.phase }, { on := 5, ground := Ground.phase }, { on := 6, ground := Ground.phase }, { on := 7, ground := Ground.phase }, { on := 8, ground := Ground.phase }, { on := 9, ground := Ground.phase }, { on := 10, ground := Ground.phase }], guard := none }) (v := ?_) rfl (by kernel_rfl) (by kernel_rfl) (by kernel_rfl) (fun _ _ _ h => h) (Or.inl ⟨rfl, ?_⟩) hHeld ?_
    rotate_left
    · (intro wz hSw; (try dsimp only at hSw); go_simp; try with_reducible rfl)
    try simp only [Act.put, List.setIfInBounds_toArray, List.set_cons_zero, List.set_cons_succ]
    refine wpAnyH_done (by kernel_rfl) ?_ _
    go_wp2
    go_ret3
    exact ⟨hR.out, hb.out⟩
set_option maxHeartbeats 2000000 in
set_option maxRecDepth 100000 in
theorem Du.cut_any (s : ByteArray) (c : UInt8) (w : World) (hs : s.size ≤ 1000000000) :
    Calls Try.prog 28 #[.string s, .string ⟨#[c]⟩] w fun e w' => Du.CutR c s e ∧ Below w.heap.size w w' := by
  have hI := Lib.hid (Du.lcut_any s c w hs)
  go_enter Try.func28, Try.ntmps28
  go_wp2_with (fail)
  refine hI.out.mono ?_; rintro e w' ⟨hR, hE⟩
  replace hE := Lib.hid hE
  rcases hR with ⟨h1, rfl⟩ | ⟨x, y, h1, h2, rfl⟩
  · go_wp2
    go_ret3
    exact ⟨Or.inl ⟨h1, rfl⟩, hE.out⟩
  · go_wp2
    go_ret3
    exact ⟨Or.inr ⟨x, y, h1, h2, rfl⟩, hE.out⟩
theorem Du.str0 {s : ByteArray} (h : s.size = 0) : s = ⟨#[]⟩ := ByteArray.ext (Array.eq_empty_of_size_eq_zero h)
set_option maxHeartbeats 4000000 in
set_option maxRecDepth 100000 in
theorem Du.lclone_any (s : ByteArray) (w : World) (hlim : s.size ≤ 1000000000) :
    Calls Try.prog 80 #[.string s] w fun e w' => e = .returned (.string s) ∧ Below w.heap.size w w' := by
  by_cases h0 : s.size = 0
  · have hs := Du.str0 h0
    subst hs
    go_enter Try.func80, Try.ntmps80
    go_wp2
    go_ret
    exact ⟨rfl, Below.refl _ _⟩
  · obtain ⟨i0, hi, hz0, hz1, hz2⟩ := info_parts L.info8
    have hinfo : (Try.prog.info? 5).map (·.size) = some 1 := by rw [hi]; simp [hz1]
    obtain ⟨M, hM⟩ : ∃ M, M = madeCells (Value.int .u8 0).cells (((s.size : Nat) : Int).toNat * i0.size) := ⟨_, rfl⟩
    have hMs : M.size = s.size := by rw [hM, size_madeCells, hz1]; simp
    have hmk : ∀ W : World, (Instr.makeSlice 42 (.int .i64 (s.size : Int)) (.int .i64 (s.size : Int))).run Try.prog W = .ok (.slice (some ⟨W.heap.size, 0, none⟩) s.size s.size) (W.alloc (.cells M 5)) := fun W => by
      have h := run_make (P := Try.prog) W 42 5 i0 (.int .u8 0) Try.underlying42 hi hz0 .i64 .i64 (s.size : Int) (s.size : Int) (by omega) (by omega) (by rw [hz2]; omega) (by omega)
      rw [← hM] at h
      simpa using h
    clear hM
    have hcp := Lib.run_copy_row_string (P := Try.prog) (w.alloc (.cells M 5)) 42 9 3 5 w.heap.size 0 s.size s.size s M 5 Try.underlying42 hinfo (heap_alloc_new w _) (Nat.le_refl _) (by omega)
    obtain ⟨Y, hY⟩ : ∃ Y, Y = (M.toList.take 0 ++ Lib.byteCells s.data.toList ++ M.toList.drop (0 + s.size)).toArray := ⟨_, rfl⟩
    rw [← hY] at hcp
    have hYl : Y.toList = Lib.byteCells s.data.toList := by
      rw [hY, List.toList_toArray, List.take_zero, List.nil_append, List.drop_of_length_le (by rw [Array.length_toList]; omega), List.append_nil]
    have hYs : Y.size = s.size := by rw [← Array.length_toList, hYl, Lib.byteCells_length, ← Lib.size_eq]
    have hgY : ((w.alloc (.cells M 5)).setRow w.heap.size Y).heap[w.heap.size]? = some (.cells Y 5 (0, 0)) := setRow_heap _ _ M _ 5 (0, 0) (heap_alloc_new w _)
    have hne : s.data.toList ≠ [] := fun e => h0 (by rw [Lib.size_eq, e]; rfl)
    have hUS := Lib.run_unsafeString_row (P := Try.prog) ((w.alloc (.cells M 5)).setRow w.heap.size Y) 90 3 9 5 Try.underlying90 Du.cellsOf8 w.heap.size Y.size (by unfold World.shape?; rw [hgY]) s.data.toList hne (by rw [← Lib.size_eq]; omega) (by rw [← Lib.size_eq]; omega)
      (fun j x hx => Lib.cells_of_row hgY Y.size j _ (by rw [List.take_of_length_le (by rw [Array.length_toList]; exact Nat.le_refl _), hYl]; simp [Lib.byteCells, hx]))
    rw [← Lib.size_eq] at hUS
    clear hY
    go_enter Try.func80, Try.ntmps80
    go_wp2
    go_ret
    have hb1 : Below w.heap.size w (w.alloc (.cells M 5)) := (Below.refl _ w).alloc (Nat.le_refl _) _
    have hb2 : Below w.heap.size (w.alloc (.cells M 5)) ((w.alloc (.cells M 5)).setRow w.heap.size Y) := ⟨rfl, rfl, rfl, by simp, fun k hk => setRow_other _ _ _ _ (by omega)⟩
    exact ⟨rfl, Lib.below_freeze (hb1.trans hb2) (p := ⟨w.heap.size, 0, none⟩) (Nat.le_refl _) _⟩
set_option maxHeartbeats 2000000 in
set_option maxRecDepth 100000 in
theorem Du.clone_any (s : ByteArray) (w : World) (hlim : s.size ≤ 1000000000) :
    Calls Try.prog 70 #[.string s] w fun e w' => e = .returned (.string s) ∧ Below w.heap.size w w' := by
  have hI := Lib.hid (Du.lclone_any s w hlim)
  go_enter Try.func70, Try.ntmps70
  go_wp2_with (fail)
  refine hI.out.mono ?_; rintro e w' ⟨rfl, hE⟩
  replace hE := Lib.hid hE
  go_wp2
  go_ret
  exact ⟨rfl, hE.out⟩
end Go.Proofs.Ytpfejjkoemnmiaa
/-
  What the laws of package dump stand on: the document's example, short.
-/
namespace Go.Proofs.Ytpfejjkoemnmiaa
open Go.RowKit
set_option linter.unusedVariables false
set_option linter.unusedSimpArgs false
set_option maxRecDepth 100000
theorem Du.ex_may : Ob.may [4, 7] [0] [(⟨#[97, 98]⟩, 4)] = 0 := by decide +kernel
theorem Du.ex_put : strOfNums (Du.pB [4, 7] [0] [(⟨#[97, 98]⟩, 4)]) = ⟨#[97, 100, 100, 114, 32, 48, 48, 48, 48, 48, 48, 48, 52, 10, 119, 111, 114, 100, 32, 48, 48, 48, 48, 48, 48, 48, 55, 10, 110, 97, 109, 101, 32, 97, 98, 32, 48, 48, 48, 48, 48, 48, 48, 52, 10]⟩ := by decide +kernel
set_option maxHeartbeats 4000000 in
set_option maxRecDepth 100000 in
theorem Du.shown_any (w : World) : Calls Try.prog 8 #[] w fun e w' => e = .returned (.bool true) ∧ Below w.heap.size w w' := by
  have hA1 := ((Kept.refl w).alloc #[.int .u32 4, .int .u32 7] 37).below
  have hW := (Rg.two (Has.new #[.int .u32 4, .int .u32 7] 37 w)).rw (L := 4294967296) (by simp)
  generalize hw1 : w.alloc (.cells #[.int .u32 4, .int .u32 7] 37) = w1 at *
  have hA2 := ((Kept.refl w1).alloc #[.int .i64 0] 3).below
  have hS := Rg.one (Has.new #[.int .i64 0] 3 w1)
  generalize hw2 : w1.alloc (.cells #[.int .i64 0] 3) = w2 at *
  have hA3 := ((Kept.refl w2).alloc #[.string ⟨#[97, 98]⟩, .int .i64 4] 54).below
  have hY := Lib.hid (Sy.one (Has.new #[.string ⟨#[97, 98]⟩, .int .i64 4] 54 w2))
  replace hS := Lib.hid (hS.below hA3)
  replace hW := Lib.hid ((hW.below hA2).below hA3)
  have hB := Lib.hid ((hA1.trans (hA2.mono hA1.size)).trans (hA3.mono (Nat.le_trans hA1.size hA2.size)))
  have e1 : w1.heap.size = w.heap.size + 1 := by rw [← hw1]; simp
  have e2 : w2.heap.size = w.heap.size + 1 + 1 := by rw [← hw2]; simp [e1]
  rw [e1] at hS
  rw [e2] at hY
  clear e1 e2
  subst hw2 hw1
  clear hA1 hA2 hA3
  go_enter Try.func8, Try.ntmps8
  go_wp2_with (fail)
  refine (Du.put_any hW.out hS.out hY.out (fun y hy => by rcases List.mem_singleton.1 hy with rfl; decide)).mono ?_; rintro r w5 ⟨rfl, hE⟩
  rw [Du.ex_put, Du.ex_may]
  replace hB := Lib.hid (hB.out.trans (hE.mono hB.out.size))
  clear hE hW hS hY
  go_wp2
  go_ret
  exact ⟨rfl, hB.out⟩
theorem Du.whole (s : ByteArray) : s.extract 0 s.size = s := L.bs_inj (by rw [Du.bs_extract, List.drop_zero, Nat.sub_zero, List.take_of_length_le (by rw [L.bs_len]; exact Nat.le_refl _)])
theorem Du.short_any (s : ByteArray) (hs : s.size ≤ 9223372036854775807) (w : World) :
    Calls Try.prog 13 #[.string s] w fun e w' => e = .returned (.string (s.extract 0 (min s.size 600))) ∧ w = w' := by
  by_cases c : s.size ≤ 600
  · rw [Nat.min_eq_left c, Du.whole]
    go_enter Try.func13, Try.ntmps13
    go_wp2
    go_ret
    exact ⟨rfl, rfl⟩
  · rw [Nat.min_eq_right (by omega)]
    go_enter Try.func13, Try.ntmps13
    go_wp2
    go_ret
    exact ⟨rfl, rfl⟩
end Go.Proofs.Ytpfejjkoemnmiaa
/-
  An object of the call's own in a block: what stores and appends do to it.
-/
namespace Go.Proofs.Ytpfejjkoemnmiaa
open Go.RowKit
set_option linter.unusedVariables false
set_option linter.unusedSimpArgs false
set_option maxRecDepth 100000
theorem Ow.len' {e : TypeId} {k : IntKind} {base g n c : Nat} {xs : List Int} {w : World} (h : Ow e k base g n c xs w) : xs.length = n := h.has.2.2.2.1
/-- the block O is an object of the words W, the sites S and the names Y, all of the call's own since base -/
structure Ob.Own (base O : Nat) (A : Option Addr) (n c : Nat) (B : Option Addr) (m d : Nat) (C : Option Addr) (k e : Nat) (W S : List Int) (Y : List Ob.Y) (w : World) : Prop where
  hG : Has O #[.slice A n c, .slice B m d, .slice C k e] 26 w
  hP : On 37 .u32 base A n c W w
  hQ : On 3 .i64 base B m d S w
  hY : Os 54 base C k e Y w
  hO : base ≤ O
section
variable {base O : Nat} {A B C : Option Addr} {n c m d k e : Nat} {W S : List Int} {Y : List Ob.Y} {w w' : World}
theorem Ob.Own.below (h : Ob.Own base O A n c B m d C k e W S Y w) (hb : Below w.heap.size w w') : Ob.Own base O A n c B m d C k e W S Y w' :=
  ⟨h.hG.below hb, h.hP.below hb, h.hQ.below hb, h.hY.below hb, h.hO⟩
theorem Ob.Own.drew (h : Ob.Own base O A n c B m d C k e W S Y w) : Ob.Own base O A n c B m d C k e W S Y w.drew := ⟨h.hG.drew, h.hP, h.hQ, h.hY.drew, h.hO⟩
theorem Ob.Own.wo (h : Ob.Own base O A n c B m d C k e W S Y w) (hr : ∀ x ∈ W, 0 ≤ x ∧ x < 4294967296) : Wo w A n c W := h.hP.rg.rw hr
theorem Ob.Own.in (h : Ob.Own base O A n c B m d C k e W S Y w) : In w B m d S := h.hQ.rg
theorem Ob.Own.sy (h : Ob.Own base O A n c B m d C k e W S Y w) : Sy w C k e Y := h.hY.sy
theorem Ob.Own.low (h : Ob.Own base O A n c B m d C k e W S Y w) : base ≤ w.heap.size := Nat.le_trans h.hO (Nat.le_of_lt h.hG.lt)
/-- a word is stored -/
theorem Ob.Own.word {g : Nat} (h : Ob.Own base O (some ⟨g, 0, none⟩) n c B m d C k e W S Y w) (j : Nat) (x : Int) : Ob.Own base O (some ⟨g, 0, none⟩) n c B m d C k e (W.set j x) S Y (w.setCell ⟨g, j, none⟩ (.int .u32 x)) := by
  have hP : Ow 37 .u32 base g n c W w := h.hP
  have h1 := h.hP.ne h.hG (by decide) g rfl
  obtain ⟨_, _, _, _, cur, hh, _⟩ := hP.has
  exact ⟨h.hG.other (fun e => h1 e.symm) _, (hP.set j x).on, h.hQ.other hh (by decide) j _, h.hY.other hh (by decide) j _, h.hO⟩
/-- a name's cell is stored -/
theorem Ob.Own.name {g : Nat} (h : Ob.Own base O A n c B m d (some ⟨g, 0, none⟩) k e W S Y w) (j : Nat) (hj : j < k) (s : ByteArray) : Ob.Own base O A n c B m d (some ⟨g, 0, none⟩) k e W S (Y.set j (s, Ob.pl Y j)) (w.setCell ⟨g, j * 2, none⟩ (.string s)) := by
  have h1 := h.hY.ne h.hG (by decide) g rfl
  obtain ⟨_, _, _, _, cur, hh, _⟩ := h.hY.has
  exact ⟨h.hG.other (fun e => h1 e.symm) _, h.hP.other hh (by decide) _ _, h.hQ.other hh (by decide) _ _, h.hY.set1 j hj s, h.hO⟩
theorem Ob.Own.place {g : Nat} (h : Ob.Own base O A n c B m d (some ⟨g, 0, none⟩) k e W S Y w) (j : Nat) (hj : j < k) (a : Int) : Ob.Own base O A n c B m d (some ⟨g, 0, none⟩) k e W S (Y.set j (Ob.nm Y j, a)) (w.setCell ⟨g, j * 2 + 1, none⟩ (.int .i64 a)) := by
  have h1 := h.hY.ne h.hG (by decide) g rfl
  obtain ⟨_, _, _, _, cur, hh, _⟩ := h.hY.has
  exact ⟨h.hG.other (fun e => h1 e.symm) _, h.hP.other hh (by decide) _ _, h.hQ.other hh (by decide) _ _, h.hY.set2 j hj a, h.hO⟩
/-- a row of it is stored -/
theorem Ob.Own.row0 (h : Ob.Own base O A n c B m d C k e W S Y w) {A' : Option Addr} {n' c' : Nat} {W' : List Int} (hN : On 37 .u32 base A' n' c' W' w) : Ob.Own base O A' n' c' B m d C k e W' S Y (w.setCell ⟨O, 0, none⟩ (.slice A' n' c')) :=
  ⟨h.hG.set 0 _, hN.other h.hG (by decide) 0 _, h.hQ.other h.hG (by decide) 0 _, h.hY.other h.hG (by decide) 0 _, h.hO⟩
theorem Ob.Own.row1 (h : Ob.Own base O A n c B m d C k e W S Y w) {B' : Option Addr} {m' d' : Nat} {S' : List Int} (hN : On 3 .i64 base B' m' d' S' w) : Ob.Own base O A n c B' m' d' C k e W S' Y (w.setCell ⟨O, 1, none⟩ (.slice B' m' d')) :=
  ⟨h.hG.set 1 _, h.hP.other h.hG (by decide) 1 _, hN.other h.hG (by decide) 1 _, h.hY.other h.hG (by decide) 1 _, h.hO⟩
theorem Ob.Own.row2 (h : Ob.Own base O A n c B m d C k e W S Y w) {C' : Option Addr} {k' e' : Nat} {Y' : List Ob.Y} (hN : Os 54 base C' k' e' Y' w) : Ob.Own base O A n c B m d C' k' e' W S Y' (w.setCell ⟨O, 2, none⟩ (.slice C' k' e')) :=
  ⟨h.hG.set 2 _, h.hP.other h.hG (by decide) 2 _, h.hQ.other h.hG (by decide) 2 _, hN.other h.hG (by decide) 2 _, h.hO⟩
/-- behind an append to the one row: the others, and the block -/
theorem On.grown {e' : TypeId} {kk : IntKind} {base' base'' nn cc : Nat} {AA : Option Addr} {xs : List Int} {row : Option Nat} (h : On e' kk base' AA nn cc xs w) (hg : w.grownBy w' row) (hr : ∀ q, row = some q → ∀ p, (Value.slice AA nn cc).ownBlock = some p → q ≠ p) : On e' kk base' AA nn cc xs w' := by
  rcases h.cases with ⟨rfl, rfl, rfl, rfl⟩ | ⟨g, rfl, h⟩
  · exact On.none _ _ _ _
  · have h : Ow e' kk base' g nn cc xs w := h
    obtain ⟨h1, h2, h3, h4, cur, h5, h6, h7⟩ := h.has
    exact (Ow.mk' h1 h2 h3 h4 cur (h5.grown hg (fun q hq => hr q hq g rfl)) h6 h7).on
theorem Os.grown {e' : TypeId} {base' nn cc : Nat} {AA : Option Addr} {ys : List Ob.Y} {row : Option Nat} (h : Os e' base' AA nn cc ys w) (hg : w.grownBy w' row) (hr : ∀ q, row = some q → ∀ p, (Value.slice AA nn cc).ownBlock = some p → q ≠ p) : Os e' base' AA nn cc ys w' := by
  rcases h.cases with ⟨rfl, rfl, rfl, rfl⟩ | ⟨g, rfl, h⟩
  · exact Os.none _ _ _
  · obtain ⟨h1, h2, h3, h4, cur, h5, h6, h7⟩ := h.has
    exact Os.mk' h1 h2 h3 h4 cur (h5.grown hg (fun q hq => hr q hq g rfl)) h6 h7
/-- two rows of unlike kinds have unlike blocks -/
theorem On.unlike {e1 e2 : TypeId} {k1 k2 : IntKind} {b1 b2 n1 n2 c1 c2 : Nat} {A1 A2 : Option Addr} {x1 x2 : List Int} (h : On e1 k1 b1 A1 n1 c1 x1 w) (h' : On e2 k2 b2 A2 n2 c2 x2 w) (he : e1 ≠ e2) : ∀ q, (Value.slice A1 n1 c1).ownBlock = some q → ∀ p, (Value.slice A2 n2 c2).ownBlock = some p → q ≠ p := fun q hq p hp => by
  rcases h'.cases with ⟨rfl, _⟩ | ⟨g, rfl, h'⟩
  · cases hp
  · cases hp
    have h' : Ow e2 k2 b2 g n2 c2 x2 w := h'
    obtain ⟨_, _, _, _, cur, hh, _⟩ := h'.has
    exact h.ne hh (fun e => he e.symm) q hq
theorem On.unlikeS {e1 e2 : TypeId} {k1 : IntKind} {b1 b2 n1 n2 c1 c2 : Nat} {A1 A2 : Option Addr} {x1 : List Int} {x2 : List Ob.Y} (h : On e1 k1 b1 A1 n1 c1 x1 w) (h' : Os e2 b2 A2 n2 c2 x2 w) (he : e1 ≠ e2) : ∀ q, (Value.slice A1 n1 c1).ownBlock = some q → ∀ p, (Value.slice A2 n2 c2).ownBlock = some p → q ≠ p := fun q hq p hp => by
  rcases h'.cases with ⟨rfl, _⟩ | ⟨g, rfl, h'⟩
  · cases hp
  · cases hp
    obtain ⟨_, _, _, _, cur, hh, _⟩ := h'.has
    exact h.ne hh (fun e => he e.symm) q hq
theorem Ob.Own.grow0 (h : Ob.Own base O A n c B m d C k e W S Y w) (hg : w.grownBy w' (Value.slice A n c).ownBlock) {A' : Option Addr} {n' c' : Nat} {W' : List Int} (hN : On 37 .u32 base A' n' c' W' w') : Ob.Own base O A' n' c' B m d C k e W' S Y (w'.setCell ⟨O, 0, none⟩ (.slice A' n' c')) := by
  have hG := h.hG.grown hg (h.hP.ne h.hG (by decide))
  exact ⟨hG.set 0 _, hN.other hG (by decide) 0 _, (h.hQ.grown (base'' := base) hg (h.hP.unlike h.hQ (by decide))).other hG (by decide) 0 _, (h.hY.grown hg (h.hP.unlikeS h.hY (by decide))).other hG (by decide) 0 _, h.hO⟩
theorem Ob.Own.grow1 (h : Ob.Own base O A n c B m d C k e W S Y w) (hg : w.grownBy w' (Value.slice B m d).ownBlock) {B' : Option Addr} {m' d' : Nat} {S' : List Int} (hN : On 3 .i64 base B' m' d' S' w') : Ob.Own base O A n c B' m' d' C k e W S' Y (w'.setCell ⟨O, 1, none⟩ (.slice B' m' d')) := by
  have hG := h.hG.grown hg (h.hQ.ne h.hG (by decide))
  exact ⟨hG.set 1 _, (h.hP.grown (base'' := base) hg (h.hQ.unlike h.hP (by decide))).other hG (by decide) 1 _, hN.other hG (by decide) 1 _, (h.hY.grown hg (h.hQ.unlikeS h.hY (by decide))).other hG (by decide) 1 _, h.hO⟩
theorem Ob.Own.grow2 (h : Ob.Own base O A n c B m d C k e W S Y w) (hg : w.grownBy w' (Value.slice C k e).ownBlock) {C' : Option Addr} {k' e' : Nat} {Y' : List Ob.Y} (hN : Os 54 base C' k' e' Y' w') : Ob.Own base O A n c B m d C' k' e' W S Y' (w'.setCell ⟨O, 2, none⟩ (.slice C' k' e')) := by
  have hG := h.hG.grown hg (h.hY.ne h.hG (by decide))
  exact ⟨hG.set 2 _, (h.hP.grown (base'' := base) hg (fun q hq p hp e => h.hP.unlikeS h.hY (by decide) p hp q hq e.symm)).other hG (by decide) 2 _, (h.hQ.grown (base'' := base) hg (fun q hq p hp e => h.hQ.unlikeS h.hY (by decide) p hp q hq e.symm)).other hG (by decide) 2 _, hN.other hG (by decide) 2 _, h.hO⟩
end
end Go.Proofs.Ytpfejjkoemnmiaa
