/-
  The contracts of package machine: Place, Words, Out, New.
-/
import Derived.Test.YtpfgmfiegnkocaaMac8
namespace Go.Proofs.Ytpfgmfiegnkocaa
open Go.RowKit
set_option linter.unusedVariables false
set_option linter.unusedSimpArgs false
set_option maxRecDepth 100000
theorem place_any {F : Nat → Prop} {B : Nat} {x : X.St} {w : World} (h : Mac F B x w) (k : Nat) (ap : Option Addr) (n c : Nat) (xs : List Int) (hx : Ws w ap n c xs) (hf : k + n ≤ x.ws.length) :
    Calls Try.prog 23 #[.pointer (some ⟨B, 0, none⟩), .int .i64 k, .slice ap n c] w fun e w' => e = .returned (.int .i64 0) ∧ Mac F B ⟨M.placed x.ws k xs, x.s, x.pc, x.st, x.ins, x.outs⟩ w' ∧ But B w w' := by
  obtain ⟨ai, ni, ci, ao, no, co, h⟩ := h
  have C := Lib.hid (M.place_yes h.mem k ap n c xs hx hf)
  have hh := Lib.hid h
  clear h hx
  go_enter Try.func23, Try.ntmps23
  go_wp2_with (fail)
  refine C.out.mono ?_; rintro e w2 ⟨rfl, hM, hB⟩
  have hE := Lib.hid (hh.out.own hB _ _ _ _ hM hh.out.ok hh.out.pc0 hh.out.pc1)
  replace hB := Lib.hid hB
  clear C hM hh
  go_wp2
  go_ret
  exact ⟨rfl, ⟨_, _, _, _, _, _, hE.out⟩, hB.out⟩
theorem words_any {F : Nat → Prop} {B : Nat} {x : X.St} {w : World} (h : Mac F B x w) :
    Calls Try.prog 16 #[.pointer (some ⟨B, 0, none⟩)] w fun e w' => ∃ g, e = .returned (.slice (some ⟨g, 0, none⟩) x.ws.length x.ws.length) ∧ w.heap.size ≤ g ∧ Ws w' (some ⟨g, 0, none⟩) x.ws.length x.ws.length x.ws ∧ Kept w w' := by
  obtain ⟨ai, ni, ci, ao, no, co, h⟩ := h
  have C := Lib.hid (M.words_any h.mem)
  clear h
  go_enter Try.func16, Try.ntmps16
  go_wp2_with (fail)
  refine C.out.mono ?_; rintro e w2 ⟨g, rfl, p1, p2, p3⟩
  replace p2 := Lib.hid p2
  replace p3 := Lib.hid p3
  clear C
  go_wp2
  go_ret
  exact ⟨g, rfl, p1, p2.out, p3.out⟩
def T0 : Nat → Prop := fun _ => False
theorem clone_any {w : World} {ap : Option Addr} {n c : Nat} {xs : List Int} (h : Ws w ap n c xs) (hn : n ≤ 1000000000) :
    Calls Try.prog 37 #[.slice ap n c] w fun e w' => ∃ A' c', e = .returned (.slice A' n c') ∧ Ws w' A' n c' xs ∧ Turn T0 w w' ∧ ∀ ad, A' = some ad → w.heap.size ≤ ad.block ∧ ad.block < w'.heap.size := by
  cases ap with
  | none =>
    have hc := h.nil rfl
    have hl := h.le
    subst hc
    obtain rfl : n = 0 := by omega
    have hx : xs = [] := List.eq_nil_of_length_eq_zero h.len
    subst hx
    have hnil : ∀ W, (binOp .eql 22 (.slice none 0 0) (.slice none 0 0)).run Try.prog W = .ok (.bool true) W := fun W => Lib.run_eql_slice_nil W _ _ _ _ _ _ _ Try.underlying22
    go_enter Try.func37, Try.ntmps37
    go_wp2
    go_ret
    exact ⟨none, 0, rfl, Ws.empty w, Turn.refl _ w, by simp⟩
  | some ad =>
    have hr := h.rng
    have hK := (Kept.refl w).alloc #[] 39
    have hY := Lib.hid (h.kept hK)
    have hO := Lib.hid (Own.new w w.heap.size (Nat.le_refl _))
    have hT := Lib.hid (hK.turn T0)
    have hsz : w.heap.size ≤ (w.alloc (.cells #[] 39)).heap.size := hK.size
    replace hsz := Lib.hid hsz
    clear h hK
    have hnil : ∀ W, (binOp .eql 22 (.slice (some ad) n c) (.slice none 0 0)).run Try.prog W = .ok (.bool false) W := fun W => Lib.run_eql_slice_nil W _ _ _ _ _ _ _ Try.underlying22
    go_enter Try.func37, Try.ntmps37
    go_wp2_with (with_reducible refine append_words (o := ⟨some 7, _, _, _, _, _⟩) rfl (.tmp 5) (.tmp 6) rfl w.heap.size w.heap.size 0 0 [] rfl hO.out (some ad) n c xs rfl hY.out (by omega) hsz.out ?_; intro g' cap' w3 hO3 hG3)
    rw [Nat.zero_add, List.nil_append] at hO3
    have hq := hO3.has
    have hlt := (World.ownsRow.lt hO3 g' rfl)
    have hW := Lib.hid (hO3.ws hr)
    have hT3 : Turn T0 w w3 := ⟨hG3.os.trans hT.out.os, hG3.tape.trans hT.out.tape, hG3.output.trans hT.out.output, Nat.le_trans hT.out.size hG3.size, fun k hk hF => (hG3.block k (Nat.lt_of_lt_of_le hk hT.out.size) (by intro e; cases e; omega)).trans (hT.out.block k hk hF)⟩
    replace hT3 := Lib.hid hT3
    clear hG3 hO3 hY hO hT hsz
    go_ret
    exact ⟨some ⟨g', 0, none⟩, cap', by simp, hW.out, hT3.out, fun bd e => by cases e; exact ⟨hq.1, hlt.2⟩⟩
theorem outs_any {F : Nat → Prop} {B : Nat} {x : X.St} {w : World} (h : Mac F B x w) (hn : x.outs.length ≤ 1000000000) :
    Calls Try.prog 25 #[.pointer (some ⟨B, 0, none⟩)] w fun e w' => ∃ A' c', e = .returned (.slice A' x.outs.length c') ∧ Ws w' A' x.outs.length c' x.outs ∧ Turn T0 w w' ∧ ∀ ad, A' = some ad → w.heap.size ≤ ad.block ∧ ad.block < w'.heap.size := by
  obtain ⟨ai, ni, ci, ao, no, co, h⟩ := h
  have hw := h.out.ws h.rng
  have hl := h.out.len
  subst hl
  have hc : w.cell? ⟨B, 4098, none⟩ = some (.slice ao x.outs.length co) := h.mem.tail 1 _ rfl
  have C := Lib.hid (clone_any hw hn)
  clear h hw
  go_enter Try.func25, Try.ntmps25
  go_wp2_with (fail)
  refine C.out.mono ?_; rintro e w2 ⟨A', c', rfl, p1, p2, p3⟩
  replace p1 := Lib.hid p1
  replace p2 := Lib.hid p2
  replace p3 := Lib.hid p3
  clear C
  go_wp2
  go_ret
  exact ⟨A', c', rfl, p1.out, p2.out, p3.out⟩
/-- cells laid over others -/
theorem lay_at (off : Nat) : ∀ (l : List Value) (n : Nat) (acc : Array Value) (k : Nat), ((l.zipIdx n).foldl (fun cs (p : Value × Nat) => cs.setIfInBounds (off + p.2) p.1) acc)[k]? = if off + n ≤ k ∧ k < off + n + l.length ∧ k < acc.size then l[k - (off + n)]? else acc[k]?
  | [], n, acc, k => by simp; omega
  | v :: r, n, acc, k => by
    rw [List.zipIdx_cons, List.foldl_cons, lay_at off r (n + 1) (acc.setIfInBounds (off + n) v) k]
    simp only [Array.size_setIfInBounds, List.length_cons]
    by_cases c1 : off + n = k
    · subst c1
      rw [if_neg (by omega)]
      by_cases c2 : off + n < acc.size
      · rw [if_pos (by omega), Array.getElem?_setIfInBounds_self_of_lt c2, Nat.sub_self]; rfl
      · rw [if_neg (by omega), Array.getElem?_eq_none (by simp; omega), Array.getElem?_eq_none (by omega)]
    · rw [Array.getElem?_setIfInBounds_ne c1]
      by_cases c2 : off + (n + 1) ≤ k ∧ k < off + (n + 1) + r.length ∧ k < acc.size
      · rw [if_pos c2, if_pos (by omega), show k - (off + n) = (k - (off + (n + 1))) + 1 by omega, List.getElem?_cons_succ]
      · rw [if_neg c2, if_neg (by omega)]
theorem lay_size (off : Nat) : ∀ (l : List Value) (n : Nat) (acc : Array Value), ((l.zipIdx n).foldl (fun cs (p : Value × Nat) => cs.setIfInBounds (off + p.2) p.1) acc).size = acc.size
  | [], n, acc => rfl
  | v :: r, n, acc => by rw [List.zipIdx_cons, List.foldl_cons, lay_size off r (n + 1)]; simp
def X.lay (z : Array Value) (off : Nat) (cs : Array Value) : Array Value := (cs.toList.zipIdx 0).foldl (fun cs (p : Value × Nat) => cs.setIfInBounds (off + p.2) p.1) z
theorem X.lay_at (z : Array Value) (off : Nat) (cs : Array Value) (k : Nat) (hz : off + cs.size ≤ z.size) : (X.lay z off cs)[k]? = if off ≤ k ∧ k < off + cs.size then cs[k - off]? else z[k]? := by
  unfold X.lay
  rw [Go.Proofs.Ytpfgmfiegnkocaa.lay_at]
  simp only [Nat.add_zero, Array.length_toList]
  by_cases c : off ≤ k ∧ k < off + cs.size
  · rw [if_pos (by omega), if_pos c]; simp
  · rw [if_neg (by omega), if_neg c]
theorem X.lay_size (z : Array Value) (off : Nat) (cs : Array Value) : (X.lay z off cs).size = z.size := Go.Proofs.Ytpfgmfiegnkocaa.lay_size off _ _ _
theorem fill_cons {place : Nat → Option (Nat × Nat)} {z : Array Value} {i off n : Nat} {v : Value} {rest : List (Nat × Value)} (hp : place i = some (off, n)) (hv : v.cells.size = n) (hz : off + n ≤ z.size) : Instr.fill place z ((i, v) :: rest) = Instr.fill place (X.lay z off v.cells) rest := by
  rw [Instr.fill]
  simp only [hp]
  rw [if_neg (by simp; omega)]
  congr 1
  unfold X.lay
  rw [← Array.foldl_toList, Array.toList_zipIdx]
def X.z68 : Array Value := (List.replicate 4096 (Value.int .u32 0) ++ [Value.int .i64 0, .slice none 0 0, .slice none 0 0]).toArray
def X.z70 : Array Value := (List.replicate 4096 (Value.int .u32 0) ++ (Value.int .i64 0 :: X.tl (.slice none 0 0) (.slice none 0 0) A.none' 0 0)).toArray
theorem X.shape68 : shapeOf Try.prog 75 = some (X.z68, [(0, 4097), (4097, 1), (4098, 1)]) := by kernel_rfl
theorem X.shape70 : shapeOf Try.prog 77 = some (X.z70, [(0, 4099), (4099, 21), (4120, 1), (4121, 1)]) := by kernel_rfl
theorem size_rep (k : Nat) (a : Value) (l : List Value) : (List.replicate k a ++ l).toArray.size = k + l.length := by simp
theorem at_rep (k : Nat) (a : Value) (l : List Value) (j : Nat) (hj : k ≤ j) : (List.replicate k a ++ l).toArray[j]? = l[j - k]? := by
  rw [List.getElem?_toArray, List.getElem?_append_right (by simpa using hj)]; simp
theorem X.z68_size : X.z68.size = 4099 := size_rep 4096 _ _
theorem X.z70_size : X.z70.size = 4122 := size_rep 4096 _ _
theorem X.built68 (cs : Array Value) (hs : cs.size = 4097) (v : Value) (hv : v.cells = #[v]) : Try.prog.built 75 [(0, .agg cs), (1, v)] = some (X.lay (X.lay X.z68 0 cs) 4097 #[v]) := by
  rw [built_of X.shape68, fill_cons (v := .agg cs) (off := 0) (n := 4097) rfl hs (by rw [X.z68_size]; omega), fill_cons (off := 4097) (n := 1) rfl (by rw [hv]; rfl) (by rw [X.lay_size, X.z68_size]; omega), hv]
  rfl
theorem X.built70 (cs : Array Value) (hs : cs.size = 4099) : Try.prog.built 77 [(0, .agg cs), (3, .int .i64 0)] = some (X.lay (X.lay X.z70 0 cs) 4121 #[.int .i64 0]) := by
  rw [built_of X.shape70, fill_cons (v := .agg cs) (off := 0) (n := 4099) rfl hs (by rw [X.z70_size]; omega), fill_cons (off := 4121) (n := 1) rfl rfl (by rw [X.lay_size, X.z70_size]; omega)]
  rfl
/-- a new machine's block -/
theorem MemT.machine {B : Nat} {ws : List Int} {cs : Array Value} {w w' : World} {ap : Option Addr} {n c : Nat} (hl : ws.length ≤ 4096) (hr : ∀ x ∈ ws, 0 ≤ x ∧ x < 4294967296) (hs : cs.size = 4097) (h3 : cs[4096]? = some (.int .i64 (ws.length : Int)))
    (h4 : ∀ (j : Nat) (x : Int), ws[j]? = some x → cs[j]? = some (Value.int .u32 x)) (hB : Has B (X.lay (X.lay X.z70 0 (X.lay (X.lay X.z68 0 cs) 4097 #[.slice ap n c])) 4121 #[.int .i64 0]) 77 w') :
    MemT 77 (X.tl (.slice ap n c) (.slice none 0 0) A.none' 0 0) B ws w' := by
  have s1 : (X.lay (X.lay X.z68 0 cs) 4097 #[.slice ap n c]).size = 4099 := by rw [X.lay_size, X.lay_size, X.z68_size]
  have a1 : ∀ k, k < 4097 → (X.lay (X.lay X.z70 0 (X.lay (X.lay X.z68 0 cs) 4097 #[.slice ap n c])) 4121 #[.int .i64 0])[k]? = cs[k]? := by
    intro k hk
    rw [X.lay_at _ _ _ _ (by rw [X.lay_size, X.z70_size]; simp), if_neg (by omega), X.lay_at _ _ _ _ (by rw [s1, X.z70_size]; omega), if_pos (by omega), Nat.sub_zero, X.lay_at _ _ _ _ (by rw [X.lay_size, X.z68_size]; simp), if_neg (by omega), X.lay_at _ _ _ _ (by rw [hs, X.z68_size]; omega), if_pos (by omega), Nat.sub_zero]
  refine ⟨hl, hr, _, hB, ?_, ?_, fun j x hj => ?_, fun j => ?_⟩
  · rw [X.lay_size, X.lay_size, X.z70_size, X.tl_len]
  · rw [a1 4096 (by omega)]; exact h3
  · have hj' : j < ws.length := by
      rcases Nat.lt_or_ge j ws.length with h1 | h1
      · exact h1
      · rw [List.getElem?_eq_none h1] at hj; cases hj
    rw [a1 j (by omega)]
    exact h4 j x hj
  · by_cases c24 : j = 24
    · subst c24
      rw [X.lay_at _ _ _ _ (by rw [X.lay_size, X.z70_size]; simp), if_pos (by simp)]
      rfl
    · rw [X.lay_at _ _ _ _ (by rw [X.lay_size, X.z70_size]; simp), if_neg (by simp; omega), X.lay_at _ _ _ _ (by rw [s1, X.z70_size]; omega)]
      by_cases c2 : j < 2
      · rw [if_pos (by omega), Nat.sub_zero, X.lay_at _ _ _ _ (by rw [X.lay_size, X.z68_size]; simp)]
        by_cases c0 : j = 0
        · subst c0
          rw [if_pos (by simp)]
          rfl
        · obtain rfl : j = 1 := by omega
          rw [if_neg (by simp), X.lay_at _ _ _ _ (by rw [hs, X.z68_size]; omega), if_neg (by omega)]
          exact at_rep 4096 _ _ 4098 (by omega)
      · rw [if_neg (by omega)]
        refine (at_rep 4096 _ _ (4097 + j) (by omega)).trans ?_
        rw [show 4097 + j - 4096 = j + 1 by omega, List.getElem?_cons_succ]
        obtain ⟨m, rfl⟩ : ∃ m, j = m + 2 := ⟨j - 2, by omega⟩
        rfl
theorem A.ok_none : A.Ok A.none' := ⟨fun j _ => by simp [A.none'], by simp [A.none'], by simp [A.none']⟩
theorem new_any {w : World} (n : Nat) (hn : n ≤ 4096) {ap : Option Addr} {m c : Nat} {xs : List Int} (hx : Ws w ap m c xs) (hm : m ≤ 1000000000) :
    Calls Try.prog 22 #[.int .i64 n, .slice ap m c] w fun e w' => ∃ B, e = .returned (.tuple #[.pointer (some ⟨B, 0, none⟩), .int .i64 0]) ∧ ∃ F, Mac F B ⟨List.replicate n 0, A.none', 0, 0, xs, []⟩ w' ∧ Turn T0 w w' ∧ ∀ k, F k → w.heap.size ≤ k := by
  have C := Lib.hid (M.new_yes n hn w)
  have hX := Lib.hid hx
  clear hx
  go_enter Try.func22, Try.ntmps22
  go_wp2_with (fail)
  refine C.out.mono ?_; rintro e w1 ⟨rfl, hM, hK, hsz⟩
  clear C
  go_upto_region 4 with (fail)
  have hKd := Lib.hid (show Kept w w1.drew from hK.drew)
  have hl := hM.len
  have hrng := hM.rng
  obtain ⟨cs, hh, hcs, hc3, hc4, _⟩ := hM.has
  replace hcs : cs.size = 4097 := hcs
  have hS0 : Has w.heap.size cs 73 w1.drew ∧ Ws w1.drew ap m c xs := ⟨hh, hX.out.kept hKd.out⟩
  replace hS0 := Lib.hid hS0
  clear hM hK hX hh
  refine wp_region_held_drew (S := fun wz => Has w.heap.size cs 73 wz ∧ Ws wz ap m c xs) (by kernel_rfl) ?_ (fun hHeld => ?_)
  · exact hS0.out
  refine wpAnyH_take (i := 0) (oi := { dst := some 16, op := Op.move (Operand.tmp 6), type := 83, pos := "machine.go:38", after := #[], guard := none }) (v := ?_) rfl (by kernel_rfl) (by kernel_rfl) (by kernel_rfl) (fun _ _ _ h => h) (Or.inl ⟨rfl, ?_⟩) hHeld ?_
  rotate_left
  · (intro wz hSw; (try dsimp only at hSw); go_simp; try with_reducible rfl)
  try simp only [Act.put, List.setIfInBounds_toArray, List.set_cons_zero, List.set_cons_succ]
  refine wpAnyH_take (i := 1) (oi := { dst := some 17, op := Op.nilCheck (Operand.tmp 16), type := 0, pos := "machine.go:38", after := #[{ on := 0, ground := Ground.data }], guard := none }) (v := ?_) rfl (by kernel_rfl) (by kernel_rfl) (by kernel_rfl) (fun _ _ _ h => h) (Or.inl ⟨rfl, ?_⟩) hHeld ?_
  rotate_left
  · (intro wz hSw; (try dsimp only at hSw); go_simp; try with_reducible rfl)
  try simp only [Act.put, List.setIfInBounds_toArray, List.set_cons_zero, List.set_cons_succ]
  refine wpAnyH_take (i := 2) (oi := { dst := some 18, op := Op.load 73 (Operand.tmp 17), type := 73, pos := "machine.go:38", after := #[{ on := 1, ground := Ground.data }], guard := none }) (v := ?_) rfl (by kernel_rfl) (by kernel_rfl) (by kernel_rfl) (fun _ _ _ h => h) (Or.inl ⟨rfl, ?_⟩) hHeld ?_
  rotate_left
  · (intro wz hSw; refine exec_load_has 73 (Operand.tmp 17) ?_ _ ?_ hSw.1 Try.underlying73 rfl (by rw [hcs]; kernel_rfl) <;> rfl)
  try simp only [Act.put, List.setIfInBounds_toArray, List.set_cons_zero, List.set_cons_succ]
  refine wpAnyH_take (i := 3) (oi := { dst := some 19, op := Op.move (Operand.tmp 1), type := 22, pos := "machine.go:38", after := #[], guard := none }) (v := ?_) rfl (by kernel_rfl) (by kernel_rfl) (by kernel_rfl) (fun _ _ _ h => h) (Or.inl ⟨rfl, ?_⟩) hHeld ?_
  rotate_left
  · (intro wz hSw; (try dsimp only at hSw); go_simp; try with_reducible rfl)
  try simp only [Act.put, List.setIfInBounds_toArray, List.set_cons_zero, List.set_cons_succ]
  refine wpAnyH_ready (rs := [4]) (by kernel_rfl) (by simp) ?_
  refine AllReadyH.cons (o := { dst := some 20, op := Op.call { callee := Callee.value (Operand.func 37), args := #[Operand.tmp 19], argTypes := #[22] }, type := 22, pos := "machine.go:38", after := #[{ on := 3, ground := Ground.data }], guard := none }) rfl (fun K hK => ?_) (AllReadyH.nil)
  go_simp
  go_at_call 37
  refine (clone_any hHeld.2 (by omega)).mono ?_
  rintro e wd ⟨A', c', rfl, p1, p2, p3⟩
  have hN := (show (fun wz => Has w.heap.size cs 73 wz ∧ Ws wz ap m c xs) _ from ⟨(p2.block _ hHeld.1.lt id).trans hHeld.1, hHeld.2.to fun ad e hn => p2.block _ (by subst e; exact hHeld.2.lt hn) id⟩)
  clear hHeld
  refine hK.out _ _ hN (fun hHeld => ?_)
  clear hK K hN
  try simp only [Act.put, List.setIfInBounds_toArray, List.set_cons_zero, List.set_cons_succ]
  refine wpAnyH_take (i := 5) (oi := { dst := some 21, op := Op.build 75 #[(0, Operand.tmp 18), (1, Operand.tmp 20)], type := 75, pos := "machine.go:38", after := #[{ on := 2, ground := Ground.data }, { on := 4, ground := Ground.data }], guard := none }) (v := ?_) rfl (by kernel_rfl) (by kernel_rfl) (by kernel_rfl) (fun _ _ _ h => h) (Or.inl ⟨rfl, ?_⟩) hHeld ?_
  rotate_left
  · (intro wz hSw; refine exec_build (o := { dst := some 21, op := Op.build 75 #[(0, Operand.tmp 18), (1, Operand.tmp 20)], type := 75, pos := "machine.go:38", after := #[{ on := 2, ground := Ground.data }, { on := 4, ground := Ground.data }], guard := none }) 75 _ rfl (X.lay (X.lay X.z68 0 cs) 4097 #[.slice A' m c']) ?_; (go_simp; exact X.built68 cs hcs (.slice A' m c') rfl))
  try simp only [Act.put, List.setIfInBounds_toArray, List.set_cons_zero, List.set_cons_succ]
  refine wpAnyH_take (i := 6) (oi := { dst := some 22, op := Op.build 77 #[(0, Operand.tmp 21), (3, Operand.const (Value.int IntKind.i64 0))], type := 77, pos := "machine.go:38", after := #[{ on := 5, ground := Ground.data }], guard := none }) (v := ?_) rfl (by kernel_rfl) (by kernel_rfl) (by kernel_rfl) (fun _ _ _ h => h) (Or.inl ⟨rfl, ?_⟩) hHeld ?_
  rotate_left
  · (intro wz hSw; refine exec_build (o := { dst := some 22, op := Op.build 77 #[(0, Operand.tmp 21), (3, Operand.const (Value.int IntKind.i64 0))], type := 77, pos := "machine.go:38", after := #[{ on := 5, ground := Ground.data }], guard := none }) 77 _ rfl (X.lay (X.lay X.z70 0 (X.lay (X.lay X.z68 0 cs) 4097 #[.slice A' m c'])) 4121 #[.int .i64 0]) ?_; (go_simp; exact X.built70 (X.lay (X.lay X.z68 0 cs) 4097 #[.slice A' m c']) (by rw [X.lay_size, X.lay_size, X.z68_size])))
  try simp only [Act.put, List.setIfInBounds_toArray, List.set_cons_zero, List.set_cons_succ]
  refine wpAnyH_ready (rs := [7]) (by kernel_rfl) (by simp) ?_
  refine AllReadyH.cons (o := { dst := some 23, op := Op.box 77 (Operand.tmp 22), type := 32, pos := "machine.go:38", after := #[{ on := 6, ground := Ground.data }], guard := none }) rfl (fun K hK => ?_) (AllReadyH.nil)
  go_simp
  have hBox := Has.new (X.lay (X.lay X.z70 0 (X.lay (X.lay X.z68 0 cs) 4097 #[.slice A' m c'])) 4121 #[.int .i64 0]) 77 wd
  have hKb := (Kept.refl wd).alloc (X.lay (X.lay X.z70 0 (X.lay (X.lay X.z68 0 cs) 4097 #[.slice A' m c'])) 4121 #[.int .i64 0]) 77
  generalize wd.alloc _ = we at *
  have hN := (show (fun wz => Has w.heap.size cs 73 wz ∧ Ws wz ap m c xs) _ from ⟨hHeld.1.kept hKb, hHeld.2.kept hKb⟩)
  clear hHeld
  refine hK.out _ _ hN (fun hHeld => ?_)
  clear hK K hN
  try simp only [Act.put, List.setIfInBounds_toArray, List.set_cons_zero, List.set_cons_succ]
  refine wpAnyH_take (i := 8) (oi := { dst := some 4, op := Op.assign (Operand.tmp 23), type := 32, pos := "machine.go:38", after := #[{ on := 7, ground := Ground.data }, { on := 4, ground := Ground.chain }, { on := 0, ground := Ground.phase }, { on := 1, ground := Ground.phase }, { on := 2, ground := Ground.phase }, { on := 3, ground := Ground.phase }, { on := 4, ground := Ground.phase }, { on := 5, ground := Ground.phase }, { on := 6, ground := Ground.phase }, { on := 7, ground := Ground.phase }], guard := none }) (v := ?_) rfl (by kernel_rfl) (by kernel_rfl) (by kernel_rfl) (fun _ _ _ h => h) (Or.inl ⟨rfl, ?_⟩) hHeld ?_
  rotate_left
  · (intro wz hSw; (try dsimp only at hSw); go_simp; try with_reducible rfl)
  try simp only [Act.put, List.setIfInBounds_toArray, List.set_cons_zero, List.set_cons_succ]
  refine wpAnyH_take (i := 9) (oi := { dst := some 5, op := Op.assign (Operand.const (Value.int IntKind.i64 0)), type := 28, pos := "machine.go:38", after := #[{ on := 8, ground := Ground.chain }, { on := 0, ground := Ground.phase }, { on := 1, ground := Ground.phase }, { on := 2, ground := Ground.phase }, { on := 3, ground := Ground.phase }, { on := 4, ground := Ground.phase }, { on := 5, ground := Ground.phase }, { on := 6, ground := Ground.phase }, { on := 7, ground := Ground.phase }, { on := 8, ground := Ground.phase }], guard := none }) (v := ?_) rfl (by kernel_rfl) (by kernel_rfl) (by kernel_rfl) (fun _ _ _ h => h) (Or.inl ⟨rfl, ?_⟩) hHeld ?_
  rotate_left
  · (intro wz hSw; (try dsimp only at hSw); go_simp; try with_reducible rfl)
  try simp only [Act.put, List.setIfInBounds_toArray, List.set_cons_zero, List.set_cons_succ]
  refine wpAnyH_done (by kernel_rfl) ?_ _
  have hT : Turn T0 w we := ((hKd.out.turn T0).trans p2).trans (hKb.turn T0)
  have hle : w.heap.size ≤ wd.heap.size := Nat.le_trans hKd.out.size p2.size
  have hlt : wd.heap.size < we.heap.size := hBox.lt
  have hMM := MemT.machine (w := we) hl hrng hcs hc3 hc4 hBox
  have hW := p1.kept hKb
  have hMac : Mac (fun k => w.heap.size ≤ k ∧ k < we.heap.size) wd.heap.size ⟨List.replicate n 0, A.none', 0, 0, xs, []⟩ we := ⟨A', m, c', none, 0, 0, fun k hk => hk.2, ⟨hle, hlt⟩, hMM, hW, fun ad e _ => ⟨⟨Nat.le_trans hKd.out.size (p3 ad e).1, by have := (p3 ad e).2; omega⟩, by have := (p3 ad e).2; omega, fun bd e' => by cases e'⟩, World.ownsRow_nil we 0 _ _, (fun ad e => by cases e), A.ok_none, by simp, by simp, by simp⟩
  replace hMac := Lib.hid hMac
  replace hT := Lib.hid hT
  clear p1 p2 p3 hMM hW hBox hKb hHeld
  go_wp2
  go_ret2
  exact ⟨_, rfl, _, hMac.out, hT.out, fun k hk => hk.1⟩
end Go.Proofs.Ytpfgmfiegnkocaa
