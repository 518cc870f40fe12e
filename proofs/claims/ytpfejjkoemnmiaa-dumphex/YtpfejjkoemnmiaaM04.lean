/-
  Joined: FiP, DuP.
-/
import Derived.Test.YtpfejjkoemnmiaaObP
/-
  Package file, plainly: an object's bytes; the object of bytes, name by name. No Go function is named here.
-/
namespace Go.Proofs.Ytpfejjkoemnmiaa
open Go.RowKit
set_option linter.unusedVariables false
set_option linter.unusedSimpArgs false
set_option maxRecDepth 100000
set_option maxRecDepth 100000
/-- a name and its place, as bytes -/
def Fi.one (y : Ob.Y) : List Int := L.nameB (L.bs y.1) ++ L.four y.2
def Fi.names (ys : List Ob.Y) : List Int := ys.flatMap Fi.one
def Fi.head (n h k : Int) : List Int := [894847314, n, h, k]
/-- P10.1 -/
def Fi.put (ws ss : List Int) (ys : List Ob.Y) : List Int := L.put (Fi.head ws.length (Ch.prev ss ss.length + 1) ys.length) ++ L.put (Ch.pk ws ss ss.length) ++ Fi.names ys
def Fi.pB (ws ss : List Int) (ys : List Ob.Y) : List Int := if Ob.may ws ss ys = 0 then Fi.put ws ss ys else []
theorem Fi.names_take {ys : List Ob.Y} {k : Nat} (h : k < ys.length) : Fi.names (ys.take (k + 1)) = Fi.names (ys.take k) ++ Fi.one (Ob.nm ys k, Ob.pl ys k) := by
  rw [List.take_add_one, Ob.at_get h]
  simp [Fi.names]
theorem Fi.four_put (x : Int) : L.four x = L.put [x] := by simp [L.put]
/-- one name with its place: what is wrong, or it, and the bytes behind -/
def Fi.used (bs : List Int) : Nat := L.whole (L.first bs)
def Fi.step (bs : List Int) : Except Int (Ob.Y × List Int) :=
  if L.tnE bs = 0 then (if (bs.drop (Fi.used bs)).length < 4 then .error 3 else .ok ((strOfNums (L.tnX bs), L.word (bs.drop (Fi.used bs)) 0), (bs.drop (Fi.used bs)).drop 4)) else .error (L.tnE bs)
def Fi.go : Nat → List Int → Except Int (List Ob.Y × List Int)
  | 0, bs => .ok ([], bs)
  | k + 1, bs => match Fi.step bs with
    | .error e => .error e
    | .ok (y, r) => match Fi.go k r with
      | .error e => .error e
      | .ok (ys, r') => .ok (y :: ys, r')
/-- behind names that were taken -/
def Fi.pre (ys : List Ob.Y) : Except Int (List Ob.Y × List Int) → Except Int (List Ob.Y × List Int)
  | .error e => .error e
  | .ok (l, r) => .ok (ys ++ l, r)
theorem Fi.pre_nil (x : Except Int (List Ob.Y × List Int)) : Fi.pre [] x = x := by
  cases x with
  | error e => rfl
  | ok p => rfl
theorem Fi.pre_zero (ys : List Ob.Y) (bs : List Int) : Fi.pre ys (Fi.go 0 bs) = .ok (ys, bs) := by
  show Except.ok (ys ++ [], bs) = _
  rw [List.append_nil]
theorem Fi.pre_err {ys : List Ob.Y} {bs : List Int} {k : Nat} {e : Int} (h : Fi.step bs = .error e) : Fi.pre ys (Fi.go (k + 1) bs) = .error e := by
  unfold Fi.go
  rw [h]; rfl
theorem Fi.pre_ok {ys : List Ob.Y} {bs r : List Int} {k : Nat} {y : Ob.Y} (h : Fi.step bs = .ok (y, r)) : Fi.pre ys (Fi.go (k + 1) bs) = Fi.pre (ys ++ [y]) (Fi.go k r) := by
  have e : Fi.go (k + 1) bs = match Fi.go k r with | .error e => .error e | .ok (zs, r') => .ok (y :: zs, r') := by
    conv => lhs; unfold Fi.go
    rw [h]
  rw [e]
  cases Fi.go k r with
  | error e => rfl
  | ok p => show Except.ok (ys ++ y :: p.1, p.2) = Except.ok (ys ++ [y] ++ p.1, p.2); rw [List.append_assoc]; rfl
/-- P10.2: what stands in bytes -/
def Fi.parts (bs : List Int) : Except Int (List Int × Int × List Ob.Y) :=
  if bs.length < 16 then .error 3 else
  if ¬ L.word bs 0 = 894847314 then .error 5 else
  if 1024 < L.word bs 4 ∨ 64 < L.word bs 12 then .error 2 else
  if (bs.drop 16).length < 4 * (L.word bs 4).toNat then .error 3 else
  match Fi.go (L.word bs 12).toNat ((bs.drop 16).drop (4 * (L.word bs 4).toNat)) with
  | .error e => .error e
  | .ok (ys, r) => if 0 < r.length then .error 4 else .ok (L.words (bs.drop 16) (L.word bs 4).toNat, L.word bs 8, ys)
def Fi.take (bs : List Int) : Except Int (List Int × List Int × List Ob.Y) :=
  match Fi.parts bs with
  | .error e => .error e
  | .ok (P, h, ys) => match Ch.R P h with
    | none => .error 10
    | some d => if Ob.may (Ch.uW P (some d)) (Ch.uS (some d)) ys = 0 then .ok (Ch.uW P (some d), Ch.uS (some d), ys) else .error 6
def Fi.tE (t : Except Int (List Int × List Int × List Ob.Y)) : Int := match t with | .error e => e | .ok _ => 0
def Fi.tW (t : Except Int (List Int × List Int × List Ob.Y)) : List Int := match t with | .error _ => [] | .ok p => p.1
def Fi.tS (t : Except Int (List Int × List Int × List Ob.Y)) : List Int := match t with | .error _ => [] | .ok p => p.2.1
def Fi.tY (t : Except Int (List Int × List Int × List Ob.Y)) : List Ob.Y := match t with | .error _ => [] | .ok p => p.2.2
/-- the names that were taken are short -/
theorem Fi.step_ok {bs r : List Int} {y : Ob.Y} (h : Fi.step bs = .ok (y, r)) : L.tnE bs = 0 ∧ 4 ≤ (bs.drop (Fi.used bs)).length ∧ y = (strOfNums (L.tnX bs), L.word (bs.drop (Fi.used bs)) 0) ∧ r = (bs.drop (Fi.used bs)).drop 4 := by
  unfold Fi.step at h
  split at h
  · rename_i h0
    split at h
    · cases h
    · rename_i h1
      cases h
      exact ⟨h0, by omega, rfl, rfl⟩
  · cases h
theorem Fi.step_no {bs : List Int} (h : ¬ L.tnE bs = 0) : Fi.step bs = .error (L.tnE bs) := by unfold Fi.step; rw [if_neg h]
theorem Fi.step_short {bs : List Int} (h : L.tnE bs = 0) (h1 : (bs.drop (Fi.used bs)).length < 4) : Fi.step bs = .error 3 := by unfold Fi.step; rw [if_pos h, if_pos h1]
theorem Fi.step_yes {bs : List Int} (h : L.tnE bs = 0) (h1 : ¬ (bs.drop (Fi.used bs)).length < 4) : Fi.step bs = .ok ((strOfNums (L.tnX bs), L.word (bs.drop (Fi.used bs)) 0), (bs.drop (Fi.used bs)).drop 4) := by unfold Fi.step; rw [if_pos h, if_neg h1]
theorem Fi.drop_byt {bs : List Int} (h : L.Byt bs) (n : Nat) : L.Byt (bs.drop n) := fun x hx => h x (List.mem_of_mem_drop hx)
end Go.Proofs.Ytpfejjkoemnmiaa
/-
  Package dump, plainly: a word's digits, the word of digits, an object's lines, the object of lines; what was put is taken, and what is taken is what was put. No Go function is named here.
-/
namespace Go.Proofs.Ytpfejjkoemnmiaa
open Go.RowKit
set_option linter.unusedVariables false
set_option linter.unusedSimpArgs false
set_option maxRecDepth 100000
/-- a digit of sixteen -/
def Du.dig (k : Int) : Int := if k < 10 then 48 + k else 55 + k
def Du.hex (x : Int) : List Int := [Du.dig (x / 268435456 % 16), Du.dig (x / 16777216 % 16), Du.dig (x / 1048576 % 16), Du.dig (x / 65536 % 16), Du.dig (x / 4096 % 16), Du.dig (x / 256 % 16), Du.dig (x / 16 % 16), Du.dig (x % 16)]
def Du.val (c : Int) : Option Int := if 48 ≤ c ∧ c ≤ 57 then some (c - 48) else if 65 ≤ c ∧ c ≤ 70 then some (c - 55) else none
/-- the number of digits, behind a number -/
def Du.nums : Int → List Int → Option Int
  | a, [] => some a
  | a, c :: cs => match Du.val c with
    | none => none
    | some v => Du.nums (a * 16 + v) cs
def Du.num (bs : List Int) : Option Int := if bs.length = 8 then Du.nums 0 bs else none
theorem Du.hex_len (x : Int) : (Du.hex x).length = 8 := rfl
theorem Du.val_dig {k : Int} (h0 : 0 ≤ k) (h1 : k < 16) : Du.val (Du.dig k) = some k := by
  unfold Du.val Du.dig
  split
  · rw [if_pos (by omega)]; congr 1; omega
  · rw [if_neg (by omega), if_pos (by omega)]; congr 1; omega
theorem Du.dig_val {c v : Int} (h : Du.val c = some v) : Du.dig v = c ∧ 0 ≤ v ∧ v < 16 := by
  unfold Du.val at h
  unfold Du.dig
  split at h
  · cases h; rw [if_pos (by omega)]; omega
  · split at h
    · cases h; rw [if_neg (by omega)]; omega
    · cases h
theorem Du.nums_cons {a k : Int} {cs : List Int} (h0 : 0 ≤ k) (h1 : k < 16) : Du.nums a (Du.dig k :: cs) = Du.nums (a * 16 + k) cs := by
  conv => lhs; unfold Du.nums
  rw [Du.val_dig h0 h1]
theorem Du.num_hex {x : Int} (h0 : 0 ≤ x) (h1 : x < 4294967296) : Du.num (Du.hex x) = some x := by
  unfold Du.num
  rw [if_pos (Du.hex_len x)]
  unfold Du.hex
  rw [Du.nums_cons (by omega) (by omega), Du.nums_cons (by omega) (by omega), Du.nums_cons (by omega) (by omega), Du.nums_cons (by omega) (by omega), Du.nums_cons (by omega) (by omega), Du.nums_cons (by omega) (by omega), Du.nums_cons (by omega) (by omega), Du.nums_cons (by omega) (by omega)]
  unfold Du.nums
  congr 1
  omega
theorem Du.nums_some {a n c : Int} {cs : List Int} (h : Du.nums a (c :: cs) = some n) : ∃ v, Du.val c = some v ∧ Du.nums (a * 16 + v) cs = some n := by
  unfold Du.nums at h
  cases hv : Du.val c with
  | none => rw [hv] at h; cases h
  | some v => rw [hv] at h; exact ⟨v, rfl, h⟩
theorem Du.hex_num {bs : List Int} {n : Int} (h : Du.num bs = some n) : Du.hex n = bs ∧ 0 ≤ n ∧ n < 4294967296 := by
  unfold Du.num at h
  split at h
  · rename_i hl
    match bs, hl with
    | [c0, c1, c2, c3, c4, c5, c6, c7], _ =>
      obtain ⟨v0, e0, h⟩ := Du.nums_some h
      obtain ⟨v1, e1, h⟩ := Du.nums_some h
      obtain ⟨v2, e2, h⟩ := Du.nums_some h
      obtain ⟨v3, e3, h⟩ := Du.nums_some h
      obtain ⟨v4, e4, h⟩ := Du.nums_some h
      obtain ⟨v5, e5, h⟩ := Du.nums_some h
      obtain ⟨v6, e6, h⟩ := Du.nums_some h
      obtain ⟨v7, e7, h⟩ := Du.nums_some h
      unfold Du.nums at h
      have hn : ((((((((0 * 16 + v0) * 16 + v1) * 16 + v2) * 16 + v3) * 16 + v4) * 16 + v5) * 16 + v6) * 16 + v7) = n := by simpa using h
      obtain ⟨d0, a0, b0⟩ := Du.dig_val e0
      obtain ⟨d1, a1, b1⟩ := Du.dig_val e1
      obtain ⟨d2, a2, b2⟩ := Du.dig_val e2
      obtain ⟨d3, a3, b3⟩ := Du.dig_val e3
      obtain ⟨d4, a4, b4⟩ := Du.dig_val e4
      obtain ⟨d5, a5, b5⟩ := Du.dig_val e5
      obtain ⟨d6, a6, b6⟩ := Du.dig_val e6
      obtain ⟨d7, a7, b7⟩ := Du.dig_val e7
      refine ⟨?_, by omega, by omega⟩
      unfold Du.hex
      rw [show n / 268435456 % 16 = v0 by omega, show n / 16777216 % 16 = v1 by omega, show n / 1048576 % 16 = v2 by omega, show n / 65536 % 16 = v3 by omega, show n / 4096 % 16 = v4 by omega, show n / 256 % 16 = v5 by omega, show n / 16 % 16 = v6 by omega, show n % 16 = v7 by omega, d0, d1, d2, d3, d4, d5, d6, d7]
  · cases h
theorem Du.dig_rng {k : Int} (h0 : 0 ≤ k) (h1 : k < 16) : (48 ≤ Du.dig k ∧ Du.dig k ≤ 57) ∨ (65 ≤ Du.dig k ∧ Du.dig k ≤ 70) := by
  unfold Du.dig
  split <;> omega
theorem Du.hex_rng (x : Int) : ∀ c ∈ Du.hex x, 48 ≤ c ∧ c ≤ 70 := by
  have key : ∀ y : Int, 48 ≤ Du.dig (y % 16) ∧ Du.dig (y % 16) ≤ 70 := fun y => by
    have := Du.dig_rng (k := y % 16) (by omega) (by omega)
    omega
  intro c hc
  unfold Du.hex at hc
  simp only [List.mem_cons, List.not_mem_nil, or_false] at hc
  rcases hc with rfl | rfl | rfl | rfl | rfl | rfl | rfl | rfl <;> exact key _
/-! lines -/
def Du.wordH : List Int := [119, 111, 114, 100, 32]
def Du.addrH : List Int := [97, 100, 100, 114, 32]
def Du.nameH : List Int := [110, 97, 109, 101, 32]
/-- a word's line, a name's line -/
def Du.wl (site : Bool) (x : Int) : List Int := (if site = true then Du.addrH else Du.wordH) ++ Du.hex x
def Du.nl (y : Ob.Y) : List Int := Du.nameH ++ L.bs y.1 ++ [32] ++ Du.hex y.2
/-- the words' lines, from the word of a number on -/
def Du.wls (S : List Int) : Nat → List Int → List (List Int)
  | _, [] => []
  | i, x :: ws => Du.wl (decide ((i : Int) ∈ S)) x :: Du.wls S (i + 1) ws
def Du.lines (W S : List Int) (Y : List Ob.Y) : List (List Int) := Du.wls S 0 W ++ Y.map Du.nl
def Du.text (ls : List (List Int)) : List Int := ls.flatMap (· ++ [10])
/-- P11.2 -/
def Du.put (W S : List Int) (Y : List Ob.Y) : List Int := Du.text (Du.lines W S Y)
def Du.pB (W S : List Int) (Y : List Ob.Y) : List Int := if Ob.may W S Y = 0 then Du.put W S Y else []
abbrev Du.St := List Int × List Int × List Ob.Y
/-- a line adds to an object -/
def Du.one (o : Du.St) (l : List Int) : Option Du.St :=
  if l.length < 13 then none else
  match Du.num (l.drop (l.length - 8)) with
  | none => none
  | some n =>
    if l.take 5 = Du.nameH ∧ 15 ≤ l.length then
      (if L.name ((l.take (l.length - 9)).drop 5) = true ∧ l.getD (l.length - 9) 0 = 32 then some (o.1, o.2.1, o.2.2 ++ [(strOfNums ((l.take (l.length - 9)).drop 5), n)]) else none)
    else if l.length = 13 ∧ o.2.2 = [] ∧ (l.take 5 = Du.wordH ∨ l.take 5 = Du.addrH) then some (o.1 ++ [n], (if l.take 5 = Du.addrH then o.2.1 ++ [(o.1.length : Int)] else o.2.1), []) else none
/-- behind an object and the beginning of a line -/
def Du.go (o : Du.St) (cur : List Int) : List Int → Option Du.St
  | [] => if cur = [] then some o else none
  | b :: bs => if b = 10 then (match Du.one o cur with | none => none | some o' => Du.go o' [] bs) else Du.go o (cur ++ [b]) bs
/-- P11.3 -/
def Du.take (bs : List Int) : Except Int Du.St :=
  match Du.go ([], [], []) [] bs with
  | none => .error 22
  | some o => if Ob.may o.1 o.2.1 o.2.2 = 0 then .ok o else .error 6
theorem Du.go_line : ∀ (l : List Int) (o : Du.St) (cur r : List Int), (∀ b ∈ l, b ≠ 10) → Du.go o cur (l ++ 10 :: r) = match Du.one o (cur ++ l) with | none => none | some o' => Du.go o' [] r
  | [], o, cur, r, _ => by
    rw [List.nil_append, List.append_nil]
    conv => lhs; unfold Du.go
    rw [if_pos rfl]
  | b :: l, o, cur, r, h => by
    rw [List.cons_append]
    conv => lhs; unfold Du.go
    rw [if_neg (h b List.mem_cons_self), Du.go_line l o (cur ++ [b]) r (fun c hc => h c (List.mem_cons_of_mem _ hc)), List.append_assoc]
    rfl
end Go.Proofs.Ytpfejjkoemnmiaa
