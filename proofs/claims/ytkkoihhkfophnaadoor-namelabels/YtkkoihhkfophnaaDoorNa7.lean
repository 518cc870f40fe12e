/-
  The contract of the closure that lays a row of mnemonics into the map.
-/
import Derived.Test.YtkkoihhkfophnaaDoorNa6
namespace Go.Proofs.YtkkoihhkfophnaaDoor
open Go.RowKit
set_option linter.unusedVariables false
set_option linter.unusedSimpArgs false
set_option maxRecDepth 100000
/-- the block g begins with these strings -/
def Na.Str (g : Nat) (ss : List ByteArray) (w : World) : Prop := ∀ j s, ss[j]? = some s → w.cell? ⟨g, j, none⟩ = some (.string s)
theorem Na.grown_cell {w w' : World} {B : Nat} (h : w.grownBy w' (some B)) {p : Addr} {v : Value} (hp : p.block ≠ B) (hc : w.cell? p = some v) : w'.cell? p = some v := by
  rw [World.cell?_of_block (w := w) (h.block _ (World.block_lt_of_cell? w p hc) (fun q => hp (Option.some.inj q)))]
  exact hc
theorem Na.rows_take {k : Int} {ss : List ByteArray} {T : List (Na.M × ByteArray)} {j : Nat} {s : ByteArray} (h : ss[j]? = some s) : ((k, (j : Int), false), s) :: Na.rows k 0 (ss.take j) T = Na.rows k 0 (ss.take (j + 1)) T := by
  have hj : j < ss.length := by
    rcases Nat.lt_or_ge j ss.length with h1 | h1
    · exact h1
    · rw [List.getElem?_eq_none h1] at h; cases h
  rw [List.take_add_one, h]
  show _ = Na.rows k 0 (ss.take j ++ [s]) T
  rw [Na.rows_snoc, List.length_take, Nat.min_eq_left (by omega), Nat.zero_add]
set_option maxHeartbeats 1000000 in
set_option maxRecDepth 100000 in
theorem Na.row_any {w : World} {V B g n m : Nat} {T : List (Na.M × ByteArray)} {ss : List ByteArray} (k : Int) (hk0 : 0 ≤ k) (hk1 : k ≤ 1000) (hV : w.cell? ⟨V, 0, none⟩ = some (.map (some B))) (hT : Na.Tab B n T w) (hS : Na.Str g ss w) (hm : ss.length = m) (hn : n + m ≤ 900)
    (hsz : ∀ s ∈ ss, s.size ≤ 1000) (hVB : V ≠ B) (hgB : g ≠ B) :
    Calls Tryd.prog 31 #[.int .i64 k, .slice (some ⟨g, 0, none⟩) m m, .pointer (some ⟨V, 0, none⟩)] w fun e w' => e = .returned (.tuple #[]) ∧ Na.Tab B (n + m) (Na.rows k 0 ss T) w' ∧ w.grownBy w' (some B) := by
  have hm1 : (m : Int) ≤ 900 := by omega
  have hT0 := Lib.hid hT
  replace hS := Lib.hid hS
  replace hsz := Lib.hid hsz
  replace hV := Lib.hid hV
  clear hT
  go_enter Tryd.func31, Tryd.ntmps31
  go_wp2
  go_loopw [5, 6, 9] (fun _ _ i wr => ∃ j : Nat, j ≤ m ∧ i = .int .i64 j ∧ Na.Tab B (n + j) (Na.rows k 0 (ss.take j) T) wr ∧ w.grownBy wr (some B)) (fun _ _ i _ => m - (intOf i).toNat)
  case atStart => exact ⟨0, by omega, rfl, hT0.out, ⟨rfl, rfl, rfl, Nat.le_refl _, fun _ _ _ => rfl⟩⟩
  case round =>
    clear hT0
    obtain ⟨j, hj, rfl, hT, hG⟩ := hrel
    by_cases d1 : j < m
    · have d2 : (j : Int) < m := by omega
      obtain ⟨s, hs⟩ : ∃ s, ss[j]? = some s := ⟨_, List.getElem?_eq_getElem (by omega)⟩
      have c1 := Na.grown_cell hG hgB (hS.out j s hs)
      have c2 := Na.grown_cell hG hVB hV.out
      have hsz2 := hsz.out s (List.mem_of_getElem? hs)
      have R := Lib.hid (Na.rows_take (k := k) (T := T) hs)
      replace hT := Lib.hid hT
      replace hG := Lib.hid hG
      clear hs
      go_wp2_with (first | (at_mapUpdate; refine Na.store rfl _ _ _ rfl rfl hT.out (by omega) (k, (j : Int), false) (Na.wf_of (by omega) (by omega) (by omega) (by omega)) s hsz2 rfl rfl ?_; intro w1 hT1 hg1) | fail)
      refine ⟨⟨j + 1, by omega, by go_num, ?_, hG.out.trans hg1⟩, by simp [intOf]; omega⟩
      rw [← R.out]
      exact hT1
    · have d2 : ¬ (j : Int) < m := by omega
      obtain rfl : j = m := by omega
      rw [List.take_of_length_le (by omega)] at hT
      replace hT := Lib.hid hT
      replace hG := Lib.hid hG
      go_wp2
      go_end0
      exact ⟨rfl, hT.out, hG.out⟩
end Go.Proofs.YtkkoihhkfophnaaDoor
