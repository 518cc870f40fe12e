/-
  Package file, plainly: an object's bytes; the object of bytes, name by name. No Go function is named here.
-/
import Derived.Test.YtmdknjfhdmigdaaObP
namespace Go.Proofs.Ytmdknjfhdmigdaa
open Go.RowKit
set_option linter.unusedVariables false
set_option linter.unusedSimpArgs false
set_option maxRecDepth 100000
/-- a name and its place, as bytes -/
def Fi.one (y : Ob.Y) : List Int := L.nameB (L.bs y.1) ++ L.four y.2
def Fi.names (ys : List Ob.Y) : List Int := ys.flatMap Fi.one
def Fi.head (n h k : Int) : List Int := [894847314, n, h, k]
/-- P10.1 -/
def Fi.put (ws ss : List Int) (ys : List Ob.Y) : List Int := L.put (Fi.head ws.length (Ch.prev ss ss.length + 1) ys.length) ++ L.put (Ch.pk ws ss ss.length) ++ Fi.names ys
def Fi.pB (ws ss : List Int) (ys : List Ob.Y) : List Int := if Ob.may ws ss ys = 0 then Fi.put ws ss ys else []
theorem Fi.names_take {ys : List Ob.Y} {k : Nat} (h : k < ys.length) : Fi.names (ys.take (k + 1)) = Fi.names (ys.take k) ++ Fi.one (Ob.nm ys k, Ob.pl ys k) := by
  rw [List.take_add_one, Ob.at_get h]
  simp [Fi.names]
theorem Fi.four_put (x : Int) : L.four x = L.put [x] := by simp [L.put]
/-- one name with its place: what is wrong, or it, and the bytes behind -/
def Fi.used (bs : List Int) : Nat := L.whole (L.first bs)
def Fi.step (bs : List Int) : Except Int (Ob.Y × List Int) :=
  if L.tnE bs = 0 then (if (bs.drop (Fi.used bs)).length < 4 then .error 3 else .ok ((strOfNums (L.tnX bs), L.word (bs.drop (Fi.used bs)) 0), (bs.drop (Fi.used bs)).drop 4)) else .error (L.tnE bs)
def Fi.go : Nat → List Int → Except Int (List Ob.Y × List Int)
  | 0, bs => .ok ([], bs)
  | k + 1, bs => match Fi.step bs with
    | .error e => .error e
    | .ok (y, r) => match Fi.go k r with
      | .error e => .error e
      | .ok (ys, r') => .ok (y :: ys, r')
/-- behind names that were taken -/
def Fi.pre (ys : List Ob.Y) : Except Int (List Ob.Y × List Int) → Except Int (List Ob.Y × List Int)
  | .error e => .error e
  | .ok (l, r) => .ok (ys ++ l, r)
theorem Fi.pre_nil (x : Except Int (List Ob.Y × List Int)) : Fi.pre [] x = x := by
  cases x with
  | error e => rfl
  | ok p => rfl
theorem Fi.pre_zero (ys : List Ob.Y) (bs : List Int) : Fi.pre ys (Fi.go 0 bs) = .ok (ys, bs) := by
  show Except.ok (ys ++ [], bs) = _
  rw [List.append_nil]
theorem Fi.pre_err {ys : List Ob.Y} {bs : List Int} {k : Nat} {e : Int} (h : Fi.step bs = .error e) : Fi.pre ys (Fi.go (k + 1) bs) = .error e := by
  unfold Fi.go
  rw [h]; rfl
theorem Fi.pre_ok {ys : List Ob.Y} {bs r : List Int} {k : Nat} {y : Ob.Y} (h : Fi.step bs = .ok (y, r)) : Fi.pre ys (Fi.go (k + 1) bs) = Fi.pre (ys ++ [y]) (Fi.go k r) := by
  have e : Fi.go (k + 1) bs = match Fi.go k r with | .error e => .error e | .ok (zs, r') => .ok (y :: zs, r') := by
    conv => lhs; unfold Fi.go
    rw [h]
  rw [e]
  cases Fi.go k r with
  | error e => rfl
  | ok p => show Except.ok (ys ++ y :: p.1, p.2) = Except.ok (ys ++ [y] ++ p.1, p.2); rw [List.append_assoc]; rfl
/-- P10.2: what stands in bytes -/
def Fi.parts (bs : List Int) : Except Int (List Int × Int × List Ob.Y) :=
  if bs.length < 16 then .error 3 else
  if ¬ L.word bs 0 = 894847314 then .error 5 else
  if 1024 < L.word bs 4 ∨ 64 < L.word bs 12 then .error 2 else
  if (bs.drop 16).length < 4 * (L.word bs 4).toNat then .error 3 else
  match Fi.go (L.word bs 12).toNat ((bs.drop 16).drop (4 * (L.word bs 4).toNat)) with
  | .error e => .error e
  | .ok (ys, r) => if 0 < r.length then .error 4 else .ok (L.words (bs.drop 16) (L.word bs 4).toNat, L.word bs 8, ys)
def Fi.take (bs : List Int) : Except Int (List Int × List Int × List Ob.Y) :=
  match Fi.parts bs with
  | .error e => .error e
  | .ok (P, h, ys) => match Ch.R P h with
    | none => .error 10
    | some d => if Ob.may (Ch.uW P (some d)) (Ch.uS (some d)) ys = 0 then .ok (Ch.uW P (some d), Ch.uS (some d), ys) else .error 6
def Fi.tE (t : Except Int (List Int × List Int × List Ob.Y)) : Int := match t with | .error e => e | .ok _ => 0
def Fi.tW (t : Except Int (List Int × List Int × List Ob.Y)) : List Int := match t with | .error _ => [] | .ok p => p.1
def Fi.tS (t : Except Int (List Int × List Int × List Ob.Y)) : List Int := match t with | .error _ => [] | .ok p => p.2.1
def Fi.tY (t : Except Int (List Int × List Int × List Ob.Y)) : List Ob.Y := match t with | .error _ => [] | .ok p => p.2.2
/-- the names that were taken are short -/
theorem Fi.step_ok {bs r : List Int} {y : Ob.Y} (h : Fi.step bs = .ok (y, r)) : L.tnE bs = 0 ∧ 4 ≤ (bs.drop (Fi.used bs)).length ∧ y = (strOfNums (L.tnX bs), L.word (bs.drop (Fi.used bs)) 0) ∧ r = (bs.drop (Fi.used bs)).drop 4 := by
  unfold Fi.step at h
  split at h
  · rename_i h0
    split at h
    · cases h
    · rename_i h1
      cases h
      exact ⟨h0, by omega, rfl, rfl⟩
  · cases h
theorem Fi.step_no {bs : List Int} (h : ¬ L.tnE bs = 0) : Fi.step bs = .error (L.tnE bs) := by unfold Fi.step; rw [if_neg h]
theorem Fi.step_short {bs : List Int} (h : L.tnE bs = 0) (h1 : (bs.drop (Fi.used bs)).length < 4) : Fi.step bs = .error 3 := by unfold Fi.step; rw [if_pos h, if_pos h1]
theorem Fi.step_yes {bs : List Int} (h : L.tnE bs = 0) (h1 : ¬ (bs.drop (Fi.used bs)).length < 4) : Fi.step bs = .ok ((strOfNums (L.tnX bs), L.word (bs.drop (Fi.used bs)) 0), (bs.drop (Fi.used bs)).drop 4) := by unfold Fi.step; rw [if_pos h, if_neg h1]
theorem Fi.drop_byt {bs : List Int} (h : L.Byt bs) (n : Nat) : L.Byt (bs.drop n) := fun x hx => h x (List.mem_of_mem_drop hx)
end Go.Proofs.Ytmdknjfhdmigdaa
