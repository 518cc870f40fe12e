/-
  The map of all mnemonics, row by row as package name writes it, and that it is the document's table.
-/
import Derived.Test.YtkkoihhkfophnaaDoorNa1
import Derived.Laws.NewBlocks
namespace Go.Proofs.YtkkoihhkfophnaaDoor
open Go.RowKit
set_option linter.unusedVariables false
set_option linter.unusedSimpArgs false
set_option maxRecDepth 100000
/-- a row of the chapter's table -/
def Na.rows (k : Int) : Nat → List ByteArray → List (Na.M × ByteArray) → List (Na.M × ByteArray)
  | _, [], T => T
  | j, s :: r, T => Na.rows k (j + 1) r (((k, (j : Int), false), s) :: T)
theorem Na.rows_snoc (k : Int) : ∀ (r : List ByteArray) (j : Nat) (s : ByteArray) (T : List (Na.M × ByteArray)), Na.rows k j (r ++ [s]) T = ((k, ((j + r.length : Nat) : Int), false), s) :: Na.rows k j r T
  | [], j, s, T => by simp [Na.rows]
  | x :: r, j, s, T => by
    show Na.rows k (j + 1) (r ++ [s]) _ = _
    rw [Na.rows_snoc k r (j + 1) s _]
    simp only [List.length_cons]
    rw [show j + 1 + r.length = j + (r.length + 1) by omega]
    rfl
def Na.sR : List ByteArray := [⟨#[77, 79, 86]⟩, ⟨#[76, 83, 76]⟩, ⟨#[65, 83, 82]⟩, ⟨#[82, 79, 82]⟩, ⟨#[65, 78, 68]⟩, ⟨#[65, 78, 78]⟩, ⟨#[73, 79, 82]⟩, ⟨#[88, 79, 82]⟩, ⟨#[65, 68, 68]⟩, ⟨#[83, 85, 66]⟩, ⟨#[77, 85, 76]⟩, ⟨#[68, 73, 86]⟩]
def Na.sH : List ByteArray := [⟨#[77, 79, 86, 72]⟩]
def Na.sF : List ByteArray := [⟨#[77, 79, 86, 70]⟩]
def Na.sM : List ByteArray := [⟨#[76, 68, 87]⟩, ⟨#[76, 68, 66]⟩, ⟨#[83, 84, 87]⟩, ⟨#[83, 84, 66]⟩]
def Na.sL : List ByteArray := [⟨#[76, 68, 76]⟩]
def Na.sW : List ByteArray := [⟨#[119, 111, 114, 100]⟩]
def Na.sE : List ByteArray := [⟨#[101, 120, 112, 111, 114, 116]⟩]
def Na.cs : List ByteArray := [⟨#[77, 73]⟩, ⟨#[69, 81]⟩, ⟨#[67, 83]⟩, ⟨#[86, 83]⟩, ⟨#[76, 83]⟩, ⟨#[76, 84]⟩, ⟨#[76, 69]⟩, ⟨#[]⟩, ⟨#[80, 76]⟩, ⟨#[78, 69]⟩, ⟨#[67, 67]⟩, ⟨#[86, 67]⟩, ⟨#[72, 73]⟩, ⟨#[71, 69]⟩, ⟨#[71, 84]⟩, ⟨#[78, 86]⟩]
def Na.t1 : List (Na.M × ByteArray) := Na.rows 1 0 Na.sR []
def Na.t3 : List (Na.M × ByteArray) := Na.rows 3 0 Na.sH Na.t1
def Na.t4 : List (Na.M × ByteArray) := Na.rows 4 0 Na.sF Na.t3
def Na.t5 : List (Na.M × ByteArray) := Na.rows 5 0 Na.sM Na.t4
def Na.t8 : List (Na.M × ByteArray) := Na.rows 8 0 Na.sL Na.t5
def Na.t9 : List (Na.M × ByteArray) := Na.rows 9 0 Na.sW Na.t8
def Na.t10 : List (Na.M × ByteArray) := Na.rows 10 0 Na.sE Na.t9
def Na.tu : List (Na.M × ByteArray) := ((1, 10, true), ⟨#[77, 76, 85]⟩) :: ((1, 9, true), ⟨#[83, 66, 67]⟩) :: ((1, 8, true), ⟨#[65, 68, 67]⟩) :: ((1, 0, true), ⟨#[77, 79, 86, 85]⟩) :: Na.t10
/-- the branches of the first conditions -/
def Na.tj : Nat → List (Na.M × ByteArray)
  | 0 => Na.tu
  | j + 1 => ((7, (j : Int), true), ⟨#[66, 76]⟩ ++ Na.cs.getD j ⟨#[]⟩) :: ((7, (j : Int), false), ⟨#[66]⟩ ++ Na.cs.getD j ⟨#[]⟩) :: Na.tj j
def Na.full : List (Na.M × ByteArray) := Na.tj 16
theorem Na.full_in : ∀ p ∈ Na.full, p.1 ∈ Na.every ∧ Na.mn p.1.1 p.1.2.1 p.1.2.2 = L.bs p.2 ∧ L.bs p.2 ≠ [] := by decide +kernel
theorem Na.full_of : ∀ t ∈ Na.every, L.bs (Na.get Na.full t) = Na.mn t.1 t.2.1 t.2.2 := by decide +kernel
theorem Na.look_mem {T : List (Na.M × ByteArray)} {t : Na.M} {s : ByteArray} (h : Na.look T t = some s) : (t, s) ∈ T := by
  unfold Na.look at h
  obtain ⟨p, h1, h2⟩ := Option.map_eq_some_iff.1 h
  have h3 := List.find?_some h1
  simp only [decide_eq_true_eq] at h3
  have h4 := List.mem_of_find?_eq_some h1
  obtain ⟨a, b⟩ := p
  simp only [] at h2 h3
  rw [← h3, ← h2]
  exact h4
theorem Na.full_look {t : Na.M} {s : ByteArray} (h : Na.look Na.full t = some s) : Na.mn t.1 t.2.1 t.2.2 = L.bs s ∧ L.bs s ≠ [] := (Na.full_in _ (Na.look_mem h)).2
theorem Na.full_get (t : Na.M) : L.bs (Na.get Na.full t) = Na.mn t.1 t.2.1 t.2.2 := by
  by_cases h : t ∈ Na.every
  · exact Na.full_of t h
  · have h1 : Na.mn t.1 t.2.1 t.2.2 = [] := by
      by_cases c : Na.mn t.1 t.2.1 t.2.2 = []
      · exact c
      · obtain ⟨h1, h2⟩ := Na.mn_box c
        exact absurd (Na.mem_every t.2.2 h1 h2) h
    rw [h1]
    unfold Na.get
    cases hl : Na.look Na.full t with
    | none => rfl
    | some s => exact absurd (Na.full_in _ (Na.look_mem hl)).1 h
theorem Na.mn_look {t : Na.M} (h : Na.mn t.1 t.2.1 t.2.2 ≠ []) : ∃ s, Na.look Na.full t = some s ∧ L.bs s = Na.mn t.1 t.2.1 t.2.2 := by
  have h1 := Na.full_get t
  unfold Na.get at h1
  cases hl : Na.look Na.full t with
  | none => rw [hl] at h1; exact absurd h1.symm h
  | some s => rw [hl] at h1; exact ⟨s, rfl, h1⟩
theorem Na.full_str (t : Na.M) : Na.get Na.full t = strOfNums (Na.mn t.1 t.2.1 t.2.2) := by rw [← Na.full_get, L.str_bs]
/-- what Of hands back -/
def Na.ofV : Option (Int × Int × Bool) → Value
  | some t => .tuple #[.int .i64 t.1, .int .i64 t.2.1, .bool t.2.2, .bool true]
  | none => .tuple #[.int .i64 0, .int .i64 0, .bool false, .bool false]
/-- what a range over all of them has found, and what it has not -/
theorem Na.of_hit {t : Na.M} {s : ByteArray} (h : Na.look Na.full t = some s) : Na.of (L.bs s) = some t := by
  obtain ⟨h1, h2⟩ := Na.full_look h
  have h3 := Na.back (k := t.1) (o := t.2.1) (u := t.2.2) (by rw [h1]; exact h2)
  rw [h1] at h3
  exact h3
theorem Na.of_miss {s : ByteArray} (h : ∀ t s', Na.Wf t → Na.look Na.full t = some s' → s' ≠ s) : Na.of (L.bs s) = none := by
  cases hq : Na.of (L.bs s) with
  | none => rfl
  | some t =>
    obtain ⟨h1, h2⟩ := Na.of_some (k := t.1) (o := t.2.1) (u := t.2.2) hq
    obtain ⟨s', h3, h4⟩ := Na.mn_look (t := t) (by rw [← h1]; exact h2)
    obtain ⟨b1, b2⟩ := Na.mn_box (by rw [← h1]; exact h2)
    have h5 : s' = s := by rw [← L.str_bs s', ← L.str_bs s, h4, ← h1]
    obtain ⟨k, o, u⟩ := t
    simp only [] at b1 b2
    exact absurd h5 (h _ s' (Na.wf_of (by omega) (by omega) (by omega) (by omega)) h3)
end Go.Proofs.YtkkoihhkfophnaaDoor
