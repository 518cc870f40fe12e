/-
  The contract of Unpack of package chain.
-/
import Derived.Test.YtmdknjfhdmigdaaCh3
import Derived.WalkMore
namespace Go.Proofs.Ytmdknjfhdmigdaa
open Go.RowKit
set_option linter.unusedVariables false
set_option linter.unusedSimpArgs false
set_option maxRecDepth 100000
/-- from a link on that must be below a bound -/
def Ch.Rz (ws : List Int) (ab : Nat) (l : Int) : Option (List Nat) := if 0 ≤ l ∧ l < (ab : Int) then Ch.U ws l.toNat else none
theorem Ch.Rz_start (ws : List Int) (head : Int) : Ch.R ws head = (Ch.Rz ws (ws.length + 1) head).map ([] ++ ·) := by
  unfold Ch.R Ch.Rz
  by_cases c : 0 ≤ head ∧ head ≤ (ws.length : Int)
  · rw [if_pos c, if_pos (by omega)]
    cases Ch.U ws head.toNat <;> rfl
  · rw [if_neg c, if_neg (by omega)]; rfl
theorem Ch.Rz_zero (ws : List Int) (ab : Nat) (h : 0 < ab) : Ch.Rz ws ab 0 = some [] := by
  unfold Ch.Rz
  rw [if_pos (by omega)]; rfl
theorem Ch.Rz_bad (ws : List Int) (ab : Nat) (l : Int) (h : l < 0 ∨ (ab : Int) ≤ l) : Ch.Rz ws ab l = none := by
  unfold Ch.Rz
  rw [if_neg (by omega)]
theorem Ch.Rz_step (ws : List Int) (ab s : Nat) (h : s + 1 < ab) : Ch.Rz ws ab ((s + 1 : Nat) : Int) = (Ch.Rz ws (s + 1) (Ch.lk ws s : Int)).map (s :: ·) := by
  unfold Ch.Rz
  rw [if_pos (by omega), Int.toNat_natCast, Ch.U_succ]
  by_cases c : Ch.lk ws s ≤ s
  · rw [if_pos c, if_pos (by omega), Int.toNat_natCast]
  · rw [if_neg c, if_neg (by omega)]; rfl
theorem Ch.Rz_next {ws : List Int} {r : Option (List Nat)} {dn : List Nat} {ab s : Nat} (h : r = (Ch.Rz ws ab ((s + 1 : Nat) : Int)).map (dn ++ ·)) (hs : s + 1 < ab) : r = (Ch.Rz ws (s + 1) (Ch.lk ws s : Int)).map ((dn ++ [s]) ++ ·) := by
  rw [h, Ch.Rz_step ws ab s hs, Option.map_map]
  congr 1
  funext t
  simp
theorem Ch.un_snoc (ws : List Int) (dn : List Nat) (s : Nat) : Ch.un ws (dn ++ [s]) = (Ch.un ws dn).set s (ws.getD s 0 / 65536) := by
  unfold Ch.un
  rw [List.foldl_append]; rfl
theorem Ow.apartC {e e' : TypeId} {k k' : IntKind} {base base' g g' n n' c c' : Nat} {xs xs' : List Int} {w : World} (h : Ow e k base g n c xs w) (h' : Ow e' k' base' g' n' c' xs' w) (he : e ≠ e') : g ≠ g' := by
  obtain ⟨_, _, _, _, cur, hh, _⟩ := h.has
  obtain ⟨_, _, _, _, cur', hh', _⟩ := h'.has
  rintro rfl
  unfold Has at hh hh'
  rw [hh] at hh'
  cases hh'
  exact he rfl
theorem Ow.to {e : TypeId} {k : IntKind} {base g n c : Nat} {xs : List Int} {w w' : World} (h : Ow e k base g n c xs w) (hg : w'.heap[g]? = w.heap[g]?) : Ow e k base g n c xs w' := by
  obtain ⟨h1, h2, h3, h4, cur, h5, h6, h7⟩ := h.has
  exact Ow.mk' h1 h2 h3 h4 cur (hg.trans h5) h6 h7
theorem Ow.grown {e : TypeId} {k : IntKind} {base g n c : Nat} {xs : List Int} {w w' : World} {row : Option Nat} (h : Ow e k base g n c xs w) (hg : w.grownBy w' row) (hr : row ≠ some g) : Ow e k base g n c xs w' :=
  h.to (hg.block g h.lt (fun e => hr e.symm))
theorem Ow.set_other {e e' : TypeId} {k k' : IntKind} {base base' g g' n n' c c' : Nat} {xs xs' : List Int} {w : World} (h : Ow e k base g n c xs w) (hne : g ≠ g') (j : Nat) (v : Value) : Ow e k base g n c xs (w.setCell ⟨g', j, none⟩ v) :=
  h.to (Below.heap_setCell _ _ _ _ hne)
/-- a store into a row of one type leaves the rows of another one -/
theorem On.otherC {e e' : TypeId} {k k' : IntKind} {base base' n n' c c' g' : Nat} {A : Option Addr} {xs xs' : List Int} {w : World} (h : On e k base A n c xs w) (h' : Ow e' k' base' g' n' c' xs' w) (he : e ≠ e') (j : Nat) (v : Value) : On e k base A n c xs (w.setCell ⟨g', j, Option.none⟩ v) := by
  rcases h.cases with ⟨rfl, rfl, rfl, rfl⟩ | ⟨g, rfl, h⟩
  · exact On.none _ _ _ _
  · have h : Ow e k base g n c xs w := h
    exact (h.to (Below.heap_setCell _ _ _ _ (h.apartC h' he))).on
theorem Ow.grown_on {e e' : TypeId} {k k' : IntKind} {base base' g n n' c c' : Nat} {A : Option Addr} {xs xs' : List Int} {w w' : World} (h : Ow e k base g n c xs w) (h' : On e' k' base' A n' c' xs' w) (he : e ≠ e') (hg : w.grownBy w' (Value.slice A n' c').ownBlock) : Ow e k base g n c xs w' := by
  refine h.grown hg ?_
  rcases h'.cases with ⟨rfl, rfl, rfl, rfl⟩ | ⟨g', rfl, h'⟩
  · intro q; cases q
  · have h' : Ow e' k' base' g' n' c' xs' w := h'
    intro q
    cases q
    exact h.apartC h' he rfl
theorem Ow.but {e : TypeId} {k : IntKind} {base g g' n c : Nat} {xs : List Int} {w w' : World} (h : Ow e k base g n c xs w) (hb : But g' w w') (hne : g ≠ g') : Ow e k base g n c xs w' := h.to (hb.block g h.lt hne)
theorem But.from {B g : Nat} {a w w' : World} (h : Below B a w) (hb : But g w w') (hB : B ≤ g) (hs : B ≤ w.heap.size) : Below B a w' := h.trans ⟨hb.os, hb.tape, hb.output, hb.size, fun k hk => hb.block k (by omega) (by omega)⟩
set_option maxRecDepth 100000 in
set_option maxHeartbeats 1000000 in
theorem Ch.unpack_some {w : World} {b off n c : Nat} {ws : List Int} (h : Wo w (some ⟨b, off, none⟩) n c ws) (hn : n ≤ 1000000) (hn0 : 0 < n) (head : Int) :
    Calls Try.prog 28 #[.slice (some ⟨b, off, none⟩) n c, .int .i64 head] w fun e w' => ∃ A1 n1 c1 A2 n2 c2, e = .returned (.tuple #[.slice A1 n1 c1, .slice A2 n2 c2, .int .i64 (Ch.uE (Ch.R ws head))]) ∧ On 45 .u32 w.heap.size A1 n1 c1 (Ch.uW ws (Ch.R ws head)) w' ∧ On 3 .i64 w.heap.size A2 n2 c2 (Ch.uS (Ch.R ws head)) w' ∧ Below w.heap.size w w' := by
  have CC := Lib.hid (Ch.clone_any h hn)
  have hlw := h.len
  have hR0 := Ch.Rz_start ws head
  rw [hlw] at hR0
  have hbl := h.lt hn0
  have H := Lib.hid h
  generalize Ch.R ws head = r at *
  replace hR0 := Lib.hid hR0
  clear h
  go_enter Try.func28, Try.ntmps28
  go_wp2_with (fail)
  go_step3
  go_wp2_with (fail)
  refine CC.out.mono ?_; rintro e w1 ⟨A', c', rfl, hO, hE⟩
  clear CC
  rcases hO.cases with ⟨_, h0, _⟩ | ⟨g, rfl, hO⟩
  · omega
  have hV := Lib.hid (show Ow 45 .u32 w.heap.size g n c' ws w1 from hO)
  replace hE := Lib.hid hE
  have hb0 : w.heap.size ≤ g := hV.out.has.1
  clear hO
  go_wp2
  go_step3
  go_wp2
  go_loopw [8, 9, 10, 11] (fun sv lv av _ wr => ∃ (ab : Nat) (l : Int) (dn : List Nat) (A2 : Option Addr) (c2 : Nat), lv = .int .i64 l ∧ av = .int .i64 (ab : Int) ∧ sv = .slice A2 dn.length c2 ∧ 0 < ab ∧ dn.length + ab ≤ n + 1 ∧ r = (Ch.Rz ws ab l).map (dn ++ ·) ∧ On 3 .i64 w.heap.size A2 dn.length c2 (dn.map Int.ofNat) wr ∧ Ow 45 .u32 w.heap.size g n c' (Ch.un ws dn) wr ∧ Below w.heap.size w wr) (fun _ _ av _ _ => (intOf av).toNat)
  case atStart => exact ⟨n + 1, head, [], none, 0, rfl, by simp, rfl, by omega, by simp, hR0.out, On.none _ _ _ _, hV.out, hE.out⟩
  case round =>
    clear hR0 hV hE
    obtain ⟨ab, l, dn, A2, c2, rfl, rfl, rfl, hab, hdl, hr, hS, hV, hE⟩ := hrel
    by_cases l0 : l = 0
    · subst l0
      rw [Ch.Rz_zero ws ab hab, Option.map_some, List.append_nil] at hr
      subst hr
      replace hE := Lib.hid hE
      replace hV := Lib.hid hV
      rcases hS.cases with ⟨rfl, h1, rfl, h2⟩ | ⟨g2, rfl, hS⟩
      · obtain rfl : dn = [] := List.eq_nil_of_length_eq_zero h1
        clear hS
        go_wp2_with (fail)
        refine (Ch.reverse_nil _).mono ?_; rintro e w' ⟨rfl, rfl⟩
        go_wp2
        (try rw [Exit.noGoto_ret])
        go_ret3
        exact ⟨_, n, c', none, 0, 0, rfl, hV.out.on, On.none _ _ _ _, hE.out⟩
      · have hS : Ow 3 .i64 w.heap.size g2 dn.length c2 (dn.map Int.ofNat) wr := hS
        have hne := hV.out.apartC hS (by decide)
        have hb2 := hS.has.1
        have CR := Lib.hid (Ch.reverse_any hS (by omega))
        clear hS
        go_wp2_with (fail)
        refine CR.out.mono ?_; rintro e w2 ⟨rfl, hS2, hU⟩
        replace hE := Lib.hid (hU.from hE.out hb2 hE.out.size)
        replace hV := Lib.hid (hV.out.but hU hne)
        rw [← List.map_reverse] at hS2
        replace hS2 := Lib.hid hS2
        clear hU CR
        go_wp2
        (try rw [Exit.noGoto_ret])
        go_ret3
        exact ⟨_, n, c', _, dn.length, c2, rfl, hV.out.on, hS2.out.on, hE.out⟩
    · have q0 : (l == 0) = false := by simpa using l0
      by_cases l1 : l < 0
      · rw [Ch.Rz_bad ws ab l (Or.inl l1), Option.map_none] at hr
        subst hr
        replace hE := Lib.hid hE
        clear hS hV
        go_wp2
        (try rw [Exit.noGoto_ret])
        go_ret3
        exact ⟨none, 0, 0, none, 0, 0, rfl, On.none _ _ _ _, On.none _ _ _ _, hE.out⟩
      · by_cases l2 : (ab : Int) ≤ l
        · rw [Ch.Rz_bad ws ab l (Or.inr l2), Option.map_none] at hr
          subst hr
          replace hE := Lib.hid hE
          clear hS hV
          go_wp2
          (try rw [Exit.noGoto_ret])
          go_ret3
          exact ⟨none, 0, 0, none, 0, 0, rfl, On.none _ _ _ _, On.none _ _ _ _, hE.out⟩
        · obtain ⟨s, hs⟩ : ∃ s : Nat, l = ((s + 1 : Nat) : Int) := ⟨l.toNat - 1, by omega⟩
          subst hs
          have hsa : s + 1 < ab := by omega
          have hsn : s < n := by omega
          replace hr := Lib.hid (Ch.Rz_next hr hsa)
          have x0 := H.out.atR (by decide) s
          have g1 := (hE.cell (p := ⟨b, off + s, none⟩) hbl).trans (H.out.at s hsn)
          have f1 := hV.free s
          obtain ⟨v0, g2⟩ := hV.cell s hsn
          have hK := Lib.hid (show (Ch.lk ws s : Int) = ws.getD s 0 % 65536 by unfold Ch.lk; omega)
          have hJ := Lib.hid (Ch.and_low (ws.getD s 0) x0.1 x0.2)
          have hV2 := hV.set s (ws.getD s 0 / 65536)
          rw [← Ch.un_snoc] at hV2
          have hS2 := hS.otherC hV (by decide) s (.int .u32 (ws.getD s 0 / 65536))
          have hE2 := hE.setCell (p := ⟨g, s, none⟩) hb0 (.int .u32 (ws.getD s 0 / 65536))
          have hG := Lib.hid (H.out.at s hsn)
          clear hS hV hE
          generalize ws.getD s 0 = x at *
          obtain ⟨x0, x1⟩ := x0
          generalize hw2 : wr.setCell ⟨g, s, none⟩ (.int .u32 (x / 65536)) = w2 at *
          have hA1 := ((Kept.refl w2).alloc #[.int .i64 (s : Int)] 3).below
          have hY := Lib.hid (Rg.one (Has.new #[.int .i64 (s : Int)] 3 w2))
          have hE3 := hE2.trans (hA1.mono hE2.size)
          have hs3 : w.heap.size ≤ (w2.alloc (.cells #[.int .i64 (s : Int)] 3)).heap.size := hE3.size
          replace hE3 := Lib.hid hE3
          have hS3 := Lib.hid (hS2.below hA1)
          have hV3 := Lib.hid (hV2.below hA1)
          have hD := Lib.hid hw2
          have l3 : ((s + 1 : Nat) : Int) = (s : Int) + 1 := by omega
          rw [l3] at l0 q0 l1 l2 ⊢
          have hsi : (s : Int) < n := by omega
          clear hA1 hE2 hS2 hV2 hw2 l3
          go_wp2_with (first
            | (rw [hD.out])
            | (with_reducible refine append_on (o := ⟨some 42, _, _, _, _, _⟩) Try.underlying23 Ch.info64 (by omega) rfl (.tmp 39) (.tmp 41) rfl w.heap.size A2 dn.length c2 (dn.map Int.ofNat) rfl hS3.out _ 1 1 [(s : Int)] rfl hY.out (by omega) (by omega) hs3 ?_; intro g3 cap3 w4 hS4 hG4
               have hE4 := hE3.out.grown hG4 hs3 hS3.out.from
               have hV4 := Lib.hid (hV3.out.grown_on hS3.out (by decide) hG4)
               replace hS4 := Lib.hid hS4
               have g5 := (hE4.cell (p := ⟨b, off + s, none⟩) hbl).trans hG.out
               replace hE4 := Lib.hid hE4
               clear hG4 hE3 hS3 hV3 hY hs3 hG hD))
          rw [hJ.out]
          go_roundw
          case rel => exact ⟨s + 1, (Ch.lk ws s : Int), dn ++ [s], _, cap3, by rw [hK.out]; congr 1; unfold wrap64; omega, by go_num, by rw [List.length_append]; rfl, by omega, by rw [List.length_append]; simp; omega, hr.out, by rw [List.length_append, List.map_append]; exact hS4.out.on, hV4.out, hE4.out⟩
          case measure => simp [intOf]; omega
set_option maxRecDepth 100000 in
theorem Ch.unpack_none {w : World} {A : Option Addr} {c : Nat} {ws : List Int} (h : Wo w A 0 c ws) (head : Int) :
    Calls Try.prog 28 #[.slice A 0 c, .int .i64 head] w fun e w' => ∃ A1 n1 c1 A2 n2 c2, e = .returned (.tuple #[.slice A1 n1 c1, .slice A2 n2 c2, .int .i64 (Ch.uE (Ch.R ws head))]) ∧ On 45 .u32 w.heap.size A1 n1 c1 (Ch.uW ws (Ch.R ws head)) w' ∧ On 3 .i64 w.heap.size A2 n2 c2 (Ch.uS (Ch.R ws head)) w' ∧ Below w.heap.size w w' := by
  have CC := Lib.hid (Ch.clone_any h (by omega))
  obtain rfl : ws = [] := List.eq_nil_of_length_eq_zero h.len
  clear h
  have hR0 := Ch.Rz_start [] head
  rw [List.length_nil] at hR0
  have hR : Hid (Ch.R [] head = if head = 0 then some [] else none) := Lib.hid (by
    rw [hR0]
    split
    · rename_i e; subst e; rfl
    · rw [Ch.Rz_bad [] (0 + 1) head (by omega)]; rfl)
  clear hR0
  generalize Ch.R [] head = r at *
  go_enter Try.func28, Try.ntmps28
  go_wp2_with (fail)
  go_step3
  go_wp2_with (fail)
  refine CC.out.mono ?_; rintro e w1 ⟨A', c', rfl, hO, hE⟩
  clear CC
  replace hO := Lib.hid hO
  replace hE := Lib.hid hE
  go_wp2
  go_step3
  go_wp2
  go_loopw [8, 9, 10, 11] (fun sv lv av _ wr => sv = .slice none 0 0 ∧ lv = .int .i64 head ∧ av = .int .i64 1 ∧ w1 = wr) (fun _ _ _ _ _ => 0)
  case atStart => exact ⟨rfl, rfl, rfl, rfl⟩
  case round =>
    obtain ⟨rfl, rfl, rfl, rfl⟩ := hrel
    by_cases l0 : head = 0
    · subst l0
      obtain rfl : r = some [] := hR.out
      go_wp2_with (fail)
      refine (Ch.reverse_nil _).mono ?_; rintro e w' ⟨rfl, rfl⟩
      go_wp2
      (try rw [Exit.noGoto_ret])
      go_ret3
      exact ⟨A', 0, c', none, 0, 0, rfl, hO.out, On.none _ _ _ _, hE.out⟩
    · have q0 : (head == 0) = false := by simpa using l0
      obtain rfl : r = none := by rw [hR.out, if_neg l0]
      by_cases l1 : head < 0
      · go_wp2
        (try rw [Exit.noGoto_ret])
        go_ret3
        exact ⟨none, 0, 0, none, 0, 0, rfl, On.none _ _ _ _, On.none _ _ _ _, hE.out⟩
      · have l2 : 1 ≤ head := by omega
        go_wp2
        (try rw [Exit.noGoto_ret])
        go_ret3
        exact ⟨none, 0, 0, none, 0, 0, rfl, On.none _ _ _ _, On.none _ _ _ _, hE.out⟩
theorem Ch.unpack_any {w : World} {A : Option Addr} {n c : Nat} {ws : List Int} (h : Wo w A n c ws) (hn : n ≤ 1000000) (head : Int) :
    Calls Try.prog 28 #[.slice A n c, .int .i64 head] w fun e w' => ∃ A1 n1 c1 A2 n2 c2, e = .returned (.tuple #[.slice A1 n1 c1, .slice A2 n2 c2, .int .i64 (Ch.uE (Ch.R ws head))]) ∧ On 45 .u32 w.heap.size A1 n1 c1 (Ch.uW ws (Ch.R ws head)) w' ∧ On 3 .i64 w.heap.size A2 n2 c2 (Ch.uS (Ch.R ws head)) w' ∧ Below w.heap.size w w' := by
  rcases Nat.eq_zero_or_pos n with rfl | hn0
  · exact Ch.unpack_none h head
  · obtain ⟨b, off, rfl⟩ := h.place hn0
    exact Ch.unpack_some h hn hn0 head
end Go.Proofs.Ytmdknjfhdmigdaa
