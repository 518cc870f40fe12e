/-
  Joined: LoP, Mem1.
-/
import Derived.Test.YtpfgmfiegnkocaaRows
import Derived.WalkKit
import Derived.WalkSpells
import Derived.WalkLawsBesides
import Derived.Lib.Hide
import Derived.Deep.Cut
import Derived.Deep.RegionHeld3
import Derived.BigQuiet
import Derived.StillTailTactics
import Derived.Test.YtpfgmfiegnkocaaObQ
import Derived.Test.YtpfgmfiegnkocaaM02
/-
  Package load, plainly: an object's words at a base.
-/
namespace Go.Proofs.Ytpfgmfiegnkocaa
open Go.RowKit
set_option linter.unusedVariables false
set_option linter.unusedSimpArgs false
set_option maxRecDepth 100000
set_option maxRecDepth 100000
/-- the words from the one of a number on, those of sites with the base added -/
def Lo.img (S : List Int) (b : Int) : Nat → List Int → List Int
  | _, [] => []
  | i, x :: ws => (if ((i : Int) ∈ S) then (x + b) % 4294967296 else x) :: Lo.img S b (i + 1) ws
/-- P12.1: the error, the words -/
def Lo.base (b : Int) : Prop := 0 ≤ b ∧ b ≤ 16384 ∧ b % 4 = 0
instance (b : Int) : Decidable (Lo.base b) := inferInstanceAs (Decidable (_ ∧ _ ∧ _))
def Lo.iE (W S : List Int) (Y : List Ob.Y) (b : Int) : Int := if Ob.may W S Y = 0 then (if Lo.base b then 0 else 11) else Ob.may W S Y
def Lo.iW (W S : List Int) (Y : List Ob.Y) (b : Int) : List Int := if Lo.iE W S Y b = 0 then Lo.img S b 0 W else []
theorem Lo.img_len (S : List Int) (b : Int) : ∀ (ws : List Int) (i : Nat), (Lo.img S b i ws).length = ws.length
  | [], _ => rfl
  | x :: ws, i => by
    show (Lo.img S b (i + 1) ws).length + 1 = ws.length + 1
    rw [Lo.img_len S b ws (i + 1)]
theorem Lo.img_at (S : List Int) (b : Int) : ∀ (ws : List Int) (i j : Nat), (Lo.img S b i ws)[j]? = (ws[j]?).map fun x => if (((i + j : Nat) : Int) ∈ S) then (x + b) % 4294967296 else x
  | [], _, j => by simp [Lo.img]
  | x :: ws, i, 0 => by simp [Lo.img]
  | x :: ws, i, j + 1 => by
    show (Lo.img S b (i + 1) ws)[j]? = _
    rw [Lo.img_at S b ws (i + 1) j, show i + 1 + j = i + (j + 1) by omega]
    rfl
theorem Lo.img_nil (b : Int) : ∀ (ws : List Int) (i : Nat), Lo.img [] b i ws = ws
  | [], _ => rfl
  | x :: ws, i => by
    show (if ((i : Int) ∈ ([] : List Int)) then (x + b) % 4294967296 else x) :: Lo.img [] b (i + 1) ws = _
    rw [if_neg (by simp), Lo.img_nil b ws (i + 1)]
theorem Lo.img_rng {S : List Int} {b : Int} {ws : List Int} (i : Nat) (h : ∀ x ∈ ws, 0 ≤ x ∧ x < 4294967296) : ∀ x ∈ Lo.img S b i ws, 0 ≤ x ∧ x < 4294967296 := by
  intro x hx
  obtain ⟨j, hj, rfl⟩ := List.getElem_of_mem hx
  have h1 := Lo.img_at S b ws i j
  rw [List.getElem?_eq_getElem hj] at h1
  rw [Lo.img_len] at hj
  rw [List.getElem?_eq_getElem hj] at h1
  simp only [Option.map_some, Option.some.injEq] at h1
  rw [h1]
  split
  · omega
  · exact h _ (List.getElem_mem hj)
theorem Lo.img_zero {S : List Int} : ∀ {ws : List Int} (i : Nat), (∀ x ∈ ws, 0 ≤ x ∧ x < 4294967296) → Lo.img S 0 i ws = ws
  | [], _, _ => rfl
  | x :: ws, i, h => by
    have hx := h x List.mem_cons_self
    show (if ((i : Int) ∈ S) then (x + 0) % 4294967296 else x) :: Lo.img S 0 (i + 1) ws = _
    rw [Lo.img_zero (i + 1) (fun z hz => h z (List.mem_cons_of_mem _ hz))]
    split
    · rw [show (x + 0) % 4294967296 = x by omega]
    · rfl
/-- one site more -/
theorem Lo.img_site {S : List Int} {b : Int} {ws : List Int} {s : Nat} {x : Int} (hs : ¬ (s : Int) ∈ S) (hx : ws[s]? = some x) : (Lo.img S b 0 ws).set s ((x + b) % 4294967296) = Lo.img (S ++ [(s : Int)]) b 0 ws := by
  have hl : s < ws.length := by
    rcases Nat.lt_or_ge s ws.length with h1 | h1
    · exact h1
    · rw [List.getElem?_eq_none h1] at hx; cases hx
  apply List.ext_getElem?
  intro j
  rw [List.getElem?_set, Lo.img_len, Lo.img_at, Lo.img_at, Nat.zero_add]
  by_cases c : s = j
  · subst c
    rw [if_pos rfl, if_pos hl, hx]
    simp
  · rw [if_neg c]
    have e : ((j : Int) ∈ S ++ [(s : Int)]) ↔ (j : Int) ∈ S := by
      simp only [List.mem_append, List.mem_cons, List.not_mem_nil, or_false]
      constructor
      · rintro (q | q)
        · exact q
        · omega
      · exact Or.inl
    simp only [e]
theorem Lo.img_old {S : List Int} {b : Int} {ws : List Int} {s : Nat} {x : Int} (hs : ¬ (s : Int) ∈ S) (hx : ws[s]? = some x) : (Lo.img S b 0 ws)[s]? = some x := by
  rw [Lo.img_at, Nat.zero_add, hx]
  simp [hs]
/-- the sites so far have not the next one -/
theorem Lo.fresh {S : List Int} (h : S.Pairwise (· < ·)) {k : Nat} (hk : k < S.length) : ¬ S.getD k 0 ∈ S.take k := by
  intro q
  obtain ⟨j, hj, e⟩ := List.getElem_of_mem q
  rw [List.length_take] at hj
  rw [List.getElem_take] at e
  have h1 := (List.pairwise_iff_getElem.1 h) j k (by omega) hk (by omega)
  rw [List.getD_eq_getElem?_getD, List.getElem?_eq_getElem hk] at e
  simp only [Option.getD_some] at e
  omega
theorem Lo.ok_E {W S : List Int} {Y : List Ob.Y} {b : Int} (h : Ob.may W S Y = 0) (hb : Lo.base b) : Lo.iE W S Y b = 0 := by unfold Lo.iE; rw [if_pos h, if_pos hb]
theorem Lo.ok_W {W S : List Int} {Y : List Ob.Y} {b : Int} (h : Ob.may W S Y = 0) (hb : Lo.base b) : Lo.iW W S Y b = Lo.img S b 0 W := by unfold Lo.iW; rw [if_pos (Lo.ok_E h hb)]
theorem Lo.bad_E {W S : List Int} {Y : List Ob.Y} {b : Int} (h : Ob.may W S Y = 0) (hb : ¬ Lo.base b) : Lo.iE W S Y b = 11 ∧ Lo.iW W S Y b = [] := by
  have e : Lo.iE W S Y b = 11 := by unfold Lo.iE; rw [if_pos h, if_neg hb]
  exact ⟨e, by unfold Lo.iW; rw [e, if_neg (by decide)]⟩
theorem Lo.not_E {W S : List Int} {Y : List Ob.Y} {b : Int} (h : ¬ Ob.may W S Y = 0) : Lo.iE W S Y b = Ob.may W S Y ∧ Lo.iW W S Y b = [] := by
  have e : Lo.iE W S Y b = Ob.may W S Y := by unfold Lo.iE; rw [if_neg h]
  exact ⟨e, by unfold Lo.iW; rw [e, if_neg h]⟩
/-- at two bases -/
theorem Lo.two {x i k : Int} (h0 : 0 ≤ x) (h1 : x < 4294967296) : ((x + k) % 4294967296 - (x + i) % 4294967296) % 4294967296 = (k - i) % 4294967296 := by omega
end Go.Proofs.Ytpfgmfiegnkocaa
/-
  The contracts of package memory: New, Word, Byte and what they call.
-/
namespace Go.Proofs.Ytpfgmfiegnkocaa
open Go.RowKit
variable {tyM : TypeId} {tlM : List Value}
set_option linter.unusedVariables false
set_option linter.unusedSimpArgs false
set_option maxRecDepth 100000
/-- a new memory's cells -/
def M.zero : Array Value := (List.replicate 4096 (Value.int .u32 0) ++ [Value.int .i64 0]).toArray
theorem M.shape : shapeOf Try.prog 73 = some (M.zero, [(0, 4096), (4096, 1)]) := by kernel_rfl
theorem row_size (k : Nat) (a b : Value) : (List.replicate k a ++ [b]).toArray.size = k + 1 := by simp
theorem row_at (k j : Nat) (a b : Value) (hj : j < k) : (List.replicate k a ++ [b]).toArray[j]? = some a := by
  rw [List.getElem?_toArray, List.getElem?_append_left (by simpa using hj), List.getElem?_replicate, if_pos hj]
theorem fill_one {place : Nat → Option (Nat × Nat)} {z : Array Value} {i off : Nat} {v : Value} (hp : place i = some (off, 1)) (hv : v.cells = #[v]) (hz : off + 1 ≤ z.size) : Instr.fill place z [(i, v)] = some (z.setIfInBounds off v) := by
  unfold Instr.fill
  simp [hp, hv, Instr.fill]
  omega
theorem M.zero_size : M.zero.size = 4097 := row_size 4096 _ _
theorem M.zero_at (j : Nat) (hj : j < 4096) : M.zero[j]? = some (Value.int .u32 0) := row_at 4096 j _ _ hj
theorem M.built (n : Int) : Try.prog.built 73 [(1, .int .i64 n)] = some (M.zero.setIfInBounds 4096 (.int .i64 n)) := by
  rw [built_of M.shape]
  exact fill_one rfl rfl (by rw [M.zero_size]; omega)
theorem MemT.new (n : Nat) (hn : n ≤ 4096) (w : World) : MemT 73 [] w.heap.size (List.replicate n 0) (w.alloc (.cells (M.zero.setIfInBounds 4096 (.int .i64 n)) 73)) := by
  refine ⟨by simpa using hn, fun x hx => ?_, _, Has.new _ _ _, by simp [M.zero_size], ?_, fun j x hj => ?_, fun j => by rw [Array.getElem?_eq_none (by simp [M.zero_size])]; simp⟩
  · rw [List.eq_of_mem_replicate hx]; omega
  · rw [Array.getElem?_setIfInBounds_self_of_lt (by rw [M.zero_size]; omega), List.length_replicate]
  · rw [List.getElem?_replicate] at hj
    split at hj
    · cases hj
      rw [Array.getElem?_setIfInBounds_ne (by omega)]
      exact M.zero_at j (by omega)
    · cases hj
theorem M.new_no (n : Int) (hn : n < 0 ∨ 4096 < n) (w : World) :
    Calls Try.prog 36 #[.int .i64 n] w fun e w' => e = .returned (.tuple #[.pointer none, .int .i64 2]) ∧ w = w' := by
  rcases Int.lt_or_le n 0 with h | h
  · go_enter Try.func36, Try.ntmps36
    go_wp2
    go_ret2
    exact ⟨rfl, rfl⟩
  · have h1 : 4096 < n := by omega
    go_enter Try.func36, Try.ntmps36
    go_wp2
    go_ret2
    exact ⟨rfl, rfl⟩
theorem M.new_yes (n : Nat) (hn : n ≤ 4096) (w : World) :
    Calls Try.prog 36 #[.int .i64 n] w fun e w' => e = .returned (.tuple #[.pointer (some ⟨w.heap.size, 0, none⟩), .int .i64 0]) ∧ MemT 73 [] w.heap.size (List.replicate n 0) w' ∧ Kept w w' ∧ w'.heap.size = w.heap.size + 1 := by
  have h0 : (0 : Int) ≤ n := by omega
  have h1 : (n : Int) ≤ 4096 := by omega
  go_enter Try.func36, Try.ntmps36
  go_wp2_with (first
    | ((with_reducible refine build_has (o := ⟨some 11, _, _, _, _, _⟩) rfl 73 _ rfl (M.zero.setIfInBounds 4096 (.int .i64 n)) ?hf4 ?_); (case hf4 => (go_simp; exact M.built _))))
  go_ret2
  exact ⟨rfl, MemT.new n hn w, (Kept.refl w).alloc _ _, by simp⟩
/-- the trap of a byte, and of a word -/
def M.bt (ws : List Int) (a : Int) : Int := if (ws.length : Int) ≤ a / 4 then 3 else 0
def M.wt (ws : List Int) (a : Int) : Int := if a % 4 = 0 then M.bt ws a else 4
/-- the word at an address, and the byte -/
def M.word (ws : List Int) (a : Int) : Int := if M.wt ws a = 0 then ws.getD (a / 4).toNat 0 else 0
def M.byte (ws : List Int) (a : Int) : Int := if M.bt ws a = 0 then ws.getD (a / 4).toNat 0 / 2 ^ (8 * (a % 4)).toNat % 256 else 0
theorem M.bt_zero {ws : List Int} {a : Int} (h0 : 0 ≤ a) (h : M.bt ws a = 0) : (a / 4).toNat < ws.length := by
  unfold M.bt at h
  split at h
  · omega
  · omega
theorem M.wt_zero {ws : List Int} {a : Int} (h : M.wt ws a = 0) : a % 4 = 0 ∧ M.bt ws a = 0 := by
  unfold M.wt at h
  split at h
  · exact ⟨by assumption, h⟩
  · omega
end Go.Proofs.Ytpfgmfiegnkocaa
