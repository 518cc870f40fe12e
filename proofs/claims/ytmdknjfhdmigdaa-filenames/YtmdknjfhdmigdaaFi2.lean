/-
  The contracts of takeSyms and takeParts of package file.
-/
import Derived.Test.YtmdknjfhdmigdaaFi1
namespace Go.Proofs.Ytmdknjfhdmigdaa
open Go.RowKit
set_option linter.unusedVariables false
set_option linter.unusedSimpArgs false
set_option maxRecDepth 100000
/-- what takeSyms hands back -/
def Fi.SymsR (w w' : World) (e : Ending) (x : Except Int (List Ob.Y × List Int)) : Prop := match x with
  | .error z => e = .returned (.tuple #[.slice none 0 0, .slice none 0 0, .int .i64 z]) ∧ Below w.heap.size w w'
  | .ok (ys, r) => ∃ C f B d, e = .returned (.tuple #[.slice C ys.length f, .slice B r.length d, .int .i64 0]) ∧ Os 52 w.heap.size C ys.length f ys w' ∧ Below w.heap.size w w'
theorem Fi.step_rest {bs r : List Int} {y : Ob.Y} (h : Fi.step bs = .ok (y, r)) : r.length ≤ bs.length := by
  obtain ⟨_, _, _, rfl⟩ := Fi.step_ok h
  rw [List.length_drop, List.length_drop]
  omega
theorem Fi.step_nz {bs : List Int} {e : Int} (h : Fi.step bs = .error e) : e ≠ 0 := by
  unfold Fi.step at h
  split at h
  · split at h
    · cases h; decide
    · cases h
  · rename_i c
    cases h; exact c
theorem Os.rowLt {e : TypeId} {base n c B : Nat} {C : Option Addr} {ys : List Ob.Y} {w : World} (h : Os e base C n c ys w) (hlt : ∀ q, (Value.slice C n c).ownBlock = some q → q < B) (cs : Array Value) : Os e base C n c ys (w.setRow B cs) := by
  rcases h.cases with ⟨rfl, rfl, rfl, rfl⟩ | ⟨g, rfl, h⟩
  · exact Os.none _ _ _
  · obtain ⟨h1, h2, h3, h4, cur, h5, h6, h7⟩ := h.has
    have := hlt g rfl
    exact Os.mk' h1 h2 h3 h4 cur (h5.rowOther (by omega) cs) h6 h7
theorem Os.ltAll {e : TypeId} {base n c : Nat} {C : Option Addr} {ys : List Ob.Y} {w : World} (h : Os e base C n c ys w) : ∀ q, (Value.slice C n c).ownBlock = some q → q < w.heap.size := fun q hq => by
  rcases h.cases with ⟨rfl, rfl, rfl, rfl⟩ | ⟨g, rfl, h⟩
  · cases hq
  · cases hq; exact h.lt
set_option maxHeartbeats 2000000 in
set_option maxRecDepth 100000 in
theorem Fi.takeSyms_any {w : World} {A : Option Addr} {m c : Nat} {bs : List Int} (h : By w A m c bs) (hm : m ≤ 1000000) (N : Nat) (hN : N ≤ 1000000) :
    Calls Try.prog 51 #[.slice A m c, .int .i64 N] w fun e w' => Fi.SymsR w w' e (Fi.go N bs) := by
  have hl := h.len
  have H := Lib.hid h
  obtain ⟨X, hX⟩ : ∃ X, Fi.go N bs = X := ⟨_, rfl⟩
  rw [hX]
  have hX0 := Lib.hid (show X = Fi.pre [] (Fi.go (N - 0) bs) by rw [Fi.pre_nil, Nat.sub_zero, hX])
  clear hX h
  go_enter Try.func51, Try.ntmps51
  go_wp2
  go_loopw [4, 5, 6, 10] (fun l r e i wr => ∃ (j : Nat) (ys : List Ob.Y) (rs : List Int) (C : Option Addr) (f : Nat) (B : Option Addr) (d n : Nat), j ≤ N ∧ i = .int .i64 j ∧ ys.length = j ∧ rs.length = n ∧ n ≤ m ∧ l = .slice C j f ∧ r = .slice B n d ∧ e = .int .i64 0 ∧ Os 52 w.heap.size C j f ys wr ∧ By w B n d rs ∧ X = Fi.pre ys (Fi.go (N - j) rs) ∧ Below w.heap.size w wr) (fun _ _ _ i _ => N - (intOf i).toNat)
  case atStart => exact ⟨0, [], bs, none, 0, A, c, m, Nat.zero_le _, rfl, rfl, hl, Nat.le_refl _, rfl, rfl, rfl, Os.none _ _ _, H.out, hX0.out, Below.refl _ _⟩
  case round =>
    clear hX0 H hl
    obtain ⟨j, ys, rs, C, f, B, d, n, hj, rfl, hyl, hrl, hnm, rfl, rfl, rfl, hO, hR, hX, hB⟩ := hrel
    by_cases d1 : j < N
    · have d2 : (j : Int) < N := by omega
      rw [show N - j = (N - (j + 1)) + 1 by omega] at hX
      have hA1 := ((Kept.refl wr).alloc #[.string ⟨#[]⟩, .int .i64 0] 52).below
      have hG := Lib.hid (Has.new #[.string ⟨#[]⟩, .int .i64 0] 52 wr)
      have hS := hA1.size
      have hOl := Lib.hid hO.ltAll
      have hB0 := hB.size
      replace hO := Lib.hid (hO.below hA1)
      replace hB := Lib.hid (hB.trans (hA1.mono hB.size))
      have hRr := hR.below hB.out
      clear hA1
      cases hs : Fi.step rs with
      | error z =>
        have hz := Fi.step_nz hs
        rw [Fi.pre_err hs] at hX
        subst hX
        have z1 : (z == 0) = false := by simpa using hz
        have z2 : (z != 0) = true := by simpa using hz
        replace hRr := Lib.hid hRr
        clear hR hO
        go_wp2_with (fail)
        generalize wr.alloc (.cells #[.string ⟨#[]⟩, .int .i64 0] 52) = w1 at *
        refine (Fi.takeSym_any hRr.out (by omega)).mono ?_; intro e w2 hq
        rw [hs] at hq
        obtain ⟨rfl, hE⟩ := hq
        replace hB := Lib.hid (hB.out.trans (hE.mono (Nat.le_trans hB0 hS)))
        replace hG := Lib.hid (hG.out.below hE)
        clear hE hs
        go_wp2_with (first
          | (with_reducible refine store_has (o := ⟨none, _, _, _, _, _⟩) rfl 52 (.tmp 7) (.tmp 15) rfl wr.heap.size #[.string ⟨#[]⟩, .int .i64 0] rfl rfl hG.out (Fi.info52 _ _) rfl (Fi.one52 _ _) ?_)
          | fail)
        go_ret3
        exact ⟨rfl, Bel.setRow hB.out hB0 _⟩
      | ok p =>
        obtain ⟨y, r⟩ := p
        rw [Fi.pre_ok hs] at hX
        have hrl2 := Fi.step_rest hs
        replace hX := Lib.hid hX
        replace hR := Lib.hid hR
        replace hRr := Lib.hid hRr
        go_wp2_with (fail)
        generalize wr.alloc (.cells #[.string ⟨#[]⟩, .int .i64 0] 52) = w1 at *
        refine (Fi.takeSym_any hRr.out (by omega)).mono ?_; intro e w2 hq
        rw [hs] at hq
        obtain ⟨B', d', rfl, hAll, hE⟩ := hq
        have hR2 := hAll w hR.out
        have hB2 := hB.out.trans (hE.mono (Nat.le_trans hB0 hS))
        have hG2 := hG.out.below hE
        have hO2 := hO.out.below hE
        have hlt : w.heap.size ≤ w2.heap.size := hB2.size
        clear hs hAll hRr hG hO hB hR hE
        obtain ⟨s, a⟩ := y
        obtain ⟨n', hn'⟩ : ∃ n', r.length = n' := ⟨_, rfl⟩
        rw [hn'] at hR2 ⊢
        have hG3 := Lib.hid (hG2.row #[.string s, .int .i64 a])
        have hO3 := hO2.rowLt hOl.out #[.string s, .int .i64 a]
        have hB3 := Bel.setRow hB2 hB0 #[.string s, .int .i64 a]
        clear hB2 hO2 hlt
        replace hX := Lib.hid hX.out
        replace hO3 := Lib.hid hO3
        replace hB3 := Lib.hid hB3
        replace hR2 := Lib.hid hR2
        go_wp2_with (first
          | (with_reducible refine store_has (o := ⟨none, _, _, _, _, _⟩) rfl 52 (.tmp 7) (.tmp 15) rfl wr.heap.size #[.string s, .int .i64 a] rfl rfl hG2 (Fi.info52 _ _) rfl (Fi.one52 _ _) ?_
             generalize w2.setRow wr.heap.size #[.string s, .int .i64 a] = w3 at *
             clear hG2
             have hA3 := ((Kept.refl w3).alloc #[.string s, .int .i64 a] 52).below
             have hO4 := Lib.hid (hO3.out.below hA3)
             have hB4 := Lib.hid (hB3.out.trans (hA3.mono hB3.out.size))
             have hY := Lib.hid (Sy.one (Has.new #[.string s, .int .i64 a] 52 w3))
             have hs4 := Lib.hid hB4.out.size
             clear hA3)
          | (with_reducible refine load_has (o := ⟨some 22, _, _, _, _, _⟩) rfl 52 (.tmp 7) rfl wr.heap.size rfl hG3.out Try.underlying52 rfl (Fi.info52 _ _) ?_)
          | (with_reducible refine append_sy (o := ⟨some 24, _, _, _, _, _⟩) Try.underlying24 Ob.info39 rfl (by omega) rfl (.tmp 21) (.tmp 23) rfl w.heap.size C j f ys rfl hO4.out (some ⟨w3.heap.size, 0, none⟩) 1 1 [(s, a)] rfl hY.out (by omega) hs4.out (Or.inr (by omega)) ?_
             intro g' cap' w5 hO5 hG5
             have hB5 := Lib.hid (hB4.out.grown hG5 hs4.out (fun q hq => hO4.out.from q hq))
             replace hO5 := Lib.hid hO5
             clear hG5 hO4 hB4 hY)
          | fail)
        go_roundw
        case rel => exact ⟨j + 1, ys ++ [(s, a)], r, some ⟨g', 0, none⟩, cap', B', d', n', by omega, by go_num, by simp [hyl], hn', by omega, rfl, rfl, rfl, hO5.out, hR2.out, hX.out, hB5.out⟩
        case measure => simp [intOf]; omega
    · have d2 : ¬ (j : Int) < N := by omega
      obtain rfl : j = N := by omega
      rw [Nat.sub_self, Fi.pre_zero] at hX
      subst hX
      replace hO := Lib.hid hO
      replace hB := Lib.hid hB
      clear hR
      subst hyl hrl
      go_wp2
      go_ret3
      exact ⟨C, f, B, d, rfl, hO.out, hB.out⟩
end Go.Proofs.Ytmdknjfhdmigdaa
