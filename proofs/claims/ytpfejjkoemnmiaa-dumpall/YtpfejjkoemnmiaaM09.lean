/-
  Joined: Ch7, Ch8, ChQ.
-/
import Derived.WalkMore
import Derived.Test.YtpfejjkoemnmiaaCh3
import Derived.Test.YtpfejjkoemnmiaaM08
import Derived.Test.YtpfejjkoemnmiaaLe2
/-
  The contract of Unpack of package chain.
-/
namespace Go.Proofs.Ytpfejjkoemnmiaa
open Go.RowKit
set_option linter.unusedVariables false
set_option linter.unusedSimpArgs false
set_option maxRecDepth 100000
set_option maxRecDepth 100000
/-- from a link on that must be below a bound -/
def Ch.Rz (ws : List Int) (ab : Nat) (l : Int) : Option (List Nat) := if 0 ≤ l ∧ l < (ab : Int) then Ch.U ws l.toNat else none
theorem Ch.Rz_start (ws : List Int) (head : Int) : Ch.R ws head = (Ch.Rz ws (ws.length + 1) head).map ([] ++ ·) := by
  unfold Ch.R Ch.Rz
  by_cases c : 0 ≤ head ∧ head ≤ (ws.length : Int)
  · rw [if_pos c, if_pos (by omega)]
    cases Ch.U ws head.toNat <;> rfl
  · rw [if_neg c, if_neg (by omega)]; rfl
theorem Ch.Rz_zero (ws : List Int) (ab : Nat) (h : 0 < ab) : Ch.Rz ws ab 0 = some [] := by
  unfold Ch.Rz
  rw [if_pos (by omega)]; rfl
theorem Ch.Rz_bad (ws : List Int) (ab : Nat) (l : Int) (h : l < 0 ∨ (ab : Int) ≤ l) : Ch.Rz ws ab l = none := by
  unfold Ch.Rz
  rw [if_neg (by omega)]
theorem Ch.Rz_step (ws : List Int) (ab s : Nat) (h : s + 1 < ab) : Ch.Rz ws ab ((s + 1 : Nat) : Int) = (Ch.Rz ws (s + 1) (Ch.lk ws s : Int)).map (s :: ·) := by
  unfold Ch.Rz
  rw [if_pos (by omega), Int.toNat_natCast, Ch.U_succ]
  by_cases c : Ch.lk ws s ≤ s
  · rw [if_pos c, if_pos (by omega), Int.toNat_natCast]
  · rw [if_neg c, if_neg (by omega)]; rfl
theorem Ch.Rz_next {ws : List Int} {r : Option (List Nat)} {dn : List Nat} {ab s : Nat} (h : r = (Ch.Rz ws ab ((s + 1 : Nat) : Int)).map (dn ++ ·)) (hs : s + 1 < ab) : r = (Ch.Rz ws (s + 1) (Ch.lk ws s : Int)).map ((dn ++ [s]) ++ ·) := by
  rw [h, Ch.Rz_step ws ab s hs, Option.map_map]
  congr 1
  funext t
  simp
theorem Ch.un_snoc (ws : List Int) (dn : List Nat) (s : Nat) : Ch.un ws (dn ++ [s]) = (Ch.un ws dn).set s (ws.getD s 0 / 65536) := by
  unfold Ch.un
  rw [List.foldl_append]; rfl
theorem Ow.apartC {e e' : TypeId} {k k' : IntKind} {base base' g g' n n' c c' : Nat} {xs xs' : List Int} {w : World} (h : Ow e k base g n c xs w) (h' : Ow e' k' base' g' n' c' xs' w) (he : e ≠ e') : g ≠ g' := by
  obtain ⟨_, _, _, _, cur, hh, _⟩ := h.has
  obtain ⟨_, _, _, _, cur', hh', _⟩ := h'.has
  rintro rfl
  unfold Has at hh hh'
  rw [hh] at hh'
  cases hh'
  exact he rfl
theorem Ow.to {e : TypeId} {k : IntKind} {base g n c : Nat} {xs : List Int} {w w' : World} (h : Ow e k base g n c xs w) (hg : w'.heap[g]? = w.heap[g]?) : Ow e k base g n c xs w' := by
  obtain ⟨h1, h2, h3, h4, cur, h5, h6, h7⟩ := h.has
  exact Ow.mk' h1 h2 h3 h4 cur (hg.trans h5) h6 h7
theorem Ow.grown {e : TypeId} {k : IntKind} {base g n c : Nat} {xs : List Int} {w w' : World} {row : Option Nat} (h : Ow e k base g n c xs w) (hg : w.grownBy w' row) (hr : row ≠ some g) : Ow e k base g n c xs w' :=
  h.to (hg.block g h.lt (fun e => hr e.symm))
theorem Ow.set_other {e e' : TypeId} {k k' : IntKind} {base base' g g' n n' c c' : Nat} {xs xs' : List Int} {w : World} (h : Ow e k base g n c xs w) (hne : g ≠ g') (j : Nat) (v : Value) : Ow e k base g n c xs (w.setCell ⟨g', j, none⟩ v) :=
  h.to (Below.heap_setCell _ _ _ _ hne)
/-- a store into a row of one type leaves the rows of another one -/
theorem On.otherC {e e' : TypeId} {k k' : IntKind} {base base' n n' c c' g' : Nat} {A : Option Addr} {xs xs' : List Int} {w : World} (h : On e k base A n c xs w) (h' : Ow e' k' base' g' n' c' xs' w) (he : e ≠ e') (j : Nat) (v : Value) : On e k base A n c xs (w.setCell ⟨g', j, Option.none⟩ v) := by
  rcases h.cases with ⟨rfl, rfl, rfl, rfl⟩ | ⟨g, rfl, h⟩
  · exact On.none _ _ _ _
  · have h : Ow e k base g n c xs w := h
    exact (h.to (Below.heap_setCell _ _ _ _ (h.apartC h' he))).on
theorem Ow.grown_on {e e' : TypeId} {k k' : IntKind} {base base' g n n' c c' : Nat} {A : Option Addr} {xs xs' : List Int} {w w' : World} (h : Ow e k base g n c xs w) (h' : On e' k' base' A n' c' xs' w) (he : e ≠ e') (hg : w.grownBy w' (Value.slice A n' c').ownBlock) : Ow e k base g n c xs w' := by
  refine h.grown hg ?_
  rcases h'.cases with ⟨rfl, rfl, rfl, rfl⟩ | ⟨g', rfl, h'⟩
  · intro q; cases q
  · have h' : Ow e' k' base' g' n' c' xs' w := h'
    intro q
    cases q
    exact h.apartC h' he rfl
theorem Ow.but {e : TypeId} {k : IntKind} {base g g' n c : Nat} {xs : List Int} {w w' : World} (h : Ow e k base g n c xs w) (hb : But g' w w') (hne : g ≠ g') : Ow e k base g n c xs w' := h.to (hb.block g h.lt hne)
theorem But.from {B g : Nat} {a w w' : World} (h : Below B a w) (hb : But g w w') (hB : B ≤ g) (hs : B ≤ w.heap.size) : Below B a w' := h.trans ⟨hb.os, hb.tape, hb.output, hb.size, fun k hk => hb.block k (by omega) (by omega)⟩
set_option maxRecDepth 100000 in
set_option maxHeartbeats 1000000 in
theorem Ch.unpack_some {w : World} {b off n c : Nat} {ws : List Int} (h : Wo w (some ⟨b, off, none⟩) n c ws) (hn : n ≤ 1000000) (hn0 : 0 < n) (head : Int) :
    Calls Try.prog 40 #[.slice (some ⟨b, off, none⟩) n c, .int .i64 head] w fun e w' => ∃ A1 n1 c1 A2 n2 c2, e = .returned (.tuple #[.slice A1 n1 c1, .slice A2 n2 c2, .int .i64 (Ch.uE (Ch.R ws head))]) ∧ On 37 .u32 w.heap.size A1 n1 c1 (Ch.uW ws (Ch.R ws head)) w' ∧ On 3 .i64 w.heap.size A2 n2 c2 (Ch.uS (Ch.R ws head)) w' ∧ Below w.heap.size w w' := by
  have CC := Lib.hid (Ch.clone_any h hn)
  have hlw := h.len
  have hR0 := Ch.Rz_start ws head
  rw [hlw] at hR0
  have hbl := h.lt hn0
  have H := Lib.hid h
  generalize Ch.R ws head = r at *
  replace hR0 := Lib.hid hR0
  clear h
  go_enter Try.func40, Try.ntmps40
  go_wp2_with (fail)
  go_step3
  go_wp2_with (fail)
  refine CC.out.mono ?_; rintro e w1 ⟨A', c', rfl, hO, hE⟩
  clear CC
  rcases hO.cases with ⟨_, h0, _⟩ | ⟨g, rfl, hO⟩
  · omega
  have hV := Lib.hid (show Ow 37 .u32 w.heap.size g n c' ws w1 from hO)
  replace hE := Lib.hid hE
  have hb0 : w.heap.size ≤ g := hV.out.has.1
  clear hO
  go_wp2
  go_step3
  go_wp2
  go_loopw [8, 9, 10, 11] (fun sv lv av _ wr => ∃ (ab : Nat) (l : Int) (dn : List Nat) (A2 : Option Addr) (c2 : Nat), lv = .int .i64 l ∧ av = .int .i64 (ab : Int) ∧ sv = .slice A2 dn.length c2 ∧ 0 < ab ∧ dn.length + ab ≤ n + 1 ∧ r = (Ch.Rz ws ab l).map (dn ++ ·) ∧ On 3 .i64 w.heap.size A2 dn.length c2 (dn.map Int.ofNat) wr ∧ Ow 37 .u32 w.heap.size g n c' (Ch.un ws dn) wr ∧ Below w.heap.size w wr) (fun _ _ av _ _ => (intOf av).toNat)
  case atStart => exact ⟨n + 1, head, [], none, 0, rfl, by simp, rfl, by omega, by simp, hR0.out, On.none _ _ _ _, hV.out, hE.out⟩
  case round =>
    clear hR0 hV hE
    obtain ⟨ab, l, dn, A2, c2, rfl, rfl, rfl, hab, hdl, hr, hS, hV, hE⟩ := hrel
    by_cases l0 : l = 0
    · subst l0
      rw [Ch.Rz_zero ws ab hab, Option.map_some, List.append_nil] at hr
      subst hr
      replace hE := Lib.hid hE
      replace hV := Lib.hid hV
      rcases hS.cases with ⟨rfl, h1, rfl, h2⟩ | ⟨g2, rfl, hS⟩
      · obtain rfl : dn = [] := List.eq_nil_of_length_eq_zero h1
        clear hS
        go_wp2_with (fail)
        refine (Ch.reverse_nil _).mono ?_; rintro e w' ⟨rfl, rfl⟩
        go_wp2
        (try rw [Exit.noGoto_ret])
        go_ret3
        exact ⟨_, n, c', none, 0, 0, rfl, hV.out.on, On.none _ _ _ _, hE.out⟩
      · have hS : Ow 3 .i64 w.heap.size g2 dn.length c2 (dn.map Int.ofNat) wr := hS
        have hne := hV.out.apartC hS (by decide)
        have hb2 := hS.has.1
        have CR := Lib.hid (Ch.reverse_any hS (by omega))
        clear hS
        go_wp2_with (fail)
        refine CR.out.mono ?_; rintro e w2 ⟨rfl, hS2, hU⟩
        replace hE := Lib.hid (hU.from hE.out hb2 hE.out.size)
        replace hV := Lib.hid (hV.out.but hU hne)
        rw [← List.map_reverse] at hS2
        replace hS2 := Lib.hid hS2
        clear hU CR
        go_wp2
        (try rw [Exit.noGoto_ret])
        go_ret3
        exact ⟨_, n, c', _, dn.length, c2, rfl, hV.out.on, hS2.out.on, hE.out⟩
    · have q0 : (l == 0) = false := by simpa using l0
      by_cases l1 : l < 0
      · rw [Ch.Rz_bad ws ab l (Or.inl l1), Option.map_none] at hr
        subst hr
        replace hE := Lib.hid hE
        clear hS hV
        go_wp2
        (try rw [Exit.noGoto_ret])
        go_ret3
        exact ⟨none, 0, 0, none, 0, 0, rfl, On.none _ _ _ _, On.none _ _ _ _, hE.out⟩
      · by_cases l2 : (ab : Int) ≤ l
        · rw [Ch.Rz_bad ws ab l (Or.inr l2), Option.map_none] at hr
          subst hr
          replace hE := Lib.hid hE
          clear hS hV
          go_wp2
          (try rw [Exit.noGoto_ret])
          go_ret3
          exact ⟨none, 0, 0, none, 0, 0, rfl, On.none _ _ _ _, On.none _ _ _ _, hE.out⟩
        · obtain ⟨s, hs⟩ : ∃ s : Nat, l = ((s + 1 : Nat) : Int) := ⟨l.toNat - 1, by omega⟩
          subst hs
          have hsa : s + 1 < ab := by omega
          have hsn : s < n := by omega
          replace hr := Lib.hid (Ch.Rz_next hr hsa)
          have x0 := H.out.atR (by decide) s
          have g1 := (hE.cell (p := ⟨b, off + s, none⟩) hbl).trans (H.out.at s hsn)
          have f1 := hV.free s
          obtain ⟨v0, g2⟩ := hV.cell s hsn
          have hK := Lib.hid (show (Ch.lk ws s : Int) = ws.getD s 0 % 65536 by unfold Ch.lk; omega)
          have hJ := Lib.hid (Ch.and_low (ws.getD s 0) x0.1 x0.2)
          have hV2 := hV.set s (ws.getD s 0 / 65536)
          rw [← Ch.un_snoc] at hV2
          have hS2 := hS.otherC hV (by decide) s (.int .u32 (ws.getD s 0 / 65536))
          have hE2 := hE.setCell (p := ⟨g, s, none⟩) hb0 (.int .u32 (ws.getD s 0 / 65536))
          have hG := Lib.hid (H.out.at s hsn)
          clear hS hV hE
          generalize ws.getD s 0 = x at *
          obtain ⟨x0, x1⟩ := x0
          generalize hw2 : wr.setCell ⟨g, s, none⟩ (.int .u32 (x / 65536)) = w2 at *
          have hA1 := ((Kept.refl w2).alloc #[.int .i64 (s : Int)] 3).below
          have hY := Lib.hid (Rg.one (Has.new #[.int .i64 (s : Int)] 3 w2))
          have hE3 := hE2.trans (hA1.mono hE2.size)
          have hs3 : w.heap.size ≤ (w2.alloc (.cells #[.int .i64 (s : Int)] 3)).heap.size := hE3.size
          replace hE3 := Lib.hid hE3
          have hS3 := Lib.hid (hS2.below hA1)
          have hV3 := Lib.hid (hV2.below hA1)
          have hD := Lib.hid hw2
          have l3 : ((s + 1 : Nat) : Int) = (s : Int) + 1 := by omega
          rw [l3] at l0 q0 l1 l2 ⊢
          have hsi : (s : Int) < n := by omega
          clear hA1 hE2 hS2 hV2 hw2 l3
          go_wp2_with (first
            | (rw [hD.out])
            | (with_reducible refine append_on (o := ⟨some 42, _, _, _, _, _⟩) Try.underlying23 Ch.info64 (by omega) rfl (.tmp 39) (.tmp 41) rfl w.heap.size A2 dn.length c2 (dn.map Int.ofNat) rfl hS3.out _ 1 1 [(s : Int)] rfl hY.out (by omega) (by omega) hs3 ?_; intro g3 cap3 w4 hS4 hG4
               have hE4 := hE3.out.grown hG4 hs3 hS3.out.from
               have hV4 := Lib.hid (hV3.out.grown_on hS3.out (by decide) hG4)
               replace hS4 := Lib.hid hS4
               have g5 := (hE4.cell (p := ⟨b, off + s, none⟩) hbl).trans hG.out
               replace hE4 := Lib.hid hE4
               clear hG4 hE3 hS3 hV3 hY hs3 hG hD))
          rw [hJ.out]
          go_roundw
          case rel => exact ⟨s + 1, (Ch.lk ws s : Int), dn ++ [s], _, cap3, by rw [hK.out]; congr 1; unfold wrap64; omega, by go_num, by rw [List.length_append]; rfl, by omega, by rw [List.length_append]; simp; omega, hr.out, by rw [List.length_append, List.map_append]; exact hS4.out.on, hV4.out, hE4.out⟩
          case measure => simp [intOf]; omega
set_option maxRecDepth 100000 in
theorem Ch.unpack_none {w : World} {A : Option Addr} {c : Nat} {ws : List Int} (h : Wo w A 0 c ws) (head : Int) :
    Calls Try.prog 40 #[.slice A 0 c, .int .i64 head] w fun e w' => ∃ A1 n1 c1 A2 n2 c2, e = .returned (.tuple #[.slice A1 n1 c1, .slice A2 n2 c2, .int .i64 (Ch.uE (Ch.R ws head))]) ∧ On 37 .u32 w.heap.size A1 n1 c1 (Ch.uW ws (Ch.R ws head)) w' ∧ On 3 .i64 w.heap.size A2 n2 c2 (Ch.uS (Ch.R ws head)) w' ∧ Below w.heap.size w w' := by
  have CC := Lib.hid (Ch.clone_any h (by omega))
  obtain rfl : ws = [] := List.eq_nil_of_length_eq_zero h.len
  clear h
  have hR0 := Ch.Rz_start [] head
  rw [List.length_nil] at hR0
  have hR : Hid (Ch.R [] head = if head = 0 then some [] else none) := Lib.hid (by
    rw [hR0]
    split
    · rename_i e; subst e; rfl
    · rw [Ch.Rz_bad [] (0 + 1) head (by omega)]; rfl)
  clear hR0
  generalize Ch.R [] head = r at *
  go_enter Try.func40, Try.ntmps40
  go_wp2_with (fail)
  go_step3
  go_wp2_with (fail)
  refine CC.out.mono ?_; rintro e w1 ⟨A', c', rfl, hO, hE⟩
  clear CC
  replace hO := Lib.hid hO
  replace hE := Lib.hid hE
  go_wp2
  go_step3
  go_wp2
  go_loopw [8, 9, 10, 11] (fun sv lv av _ wr => sv = .slice none 0 0 ∧ lv = .int .i64 head ∧ av = .int .i64 1 ∧ w1 = wr) (fun _ _ _ _ _ => 0)
  case atStart => exact ⟨rfl, rfl, rfl, rfl⟩
  case round =>
    obtain ⟨rfl, rfl, rfl, rfl⟩ := hrel
    by_cases l0 : head = 0
    · subst l0
      obtain rfl : r = some [] := hR.out
      go_wp2_with (fail)
      refine (Ch.reverse_nil _).mono ?_; rintro e w' ⟨rfl, rfl⟩
      go_wp2
      (try rw [Exit.noGoto_ret])
      go_ret3
      exact ⟨A', 0, c', none, 0, 0, rfl, hO.out, On.none _ _ _ _, hE.out⟩
    · have q0 : (head == 0) = false := by simpa using l0
      obtain rfl : r = none := by rw [hR.out, if_neg l0]
      by_cases l1 : head < 0
      · go_wp2
        (try rw [Exit.noGoto_ret])
        go_ret3
        exact ⟨none, 0, 0, none, 0, 0, rfl, On.none _ _ _ _, On.none _ _ _ _, hE.out⟩
      · have l2 : 1 ≤ head := by omega
        go_wp2
        (try rw [Exit.noGoto_ret])
        go_ret3
        exact ⟨none, 0, 0, none, 0, 0, rfl, On.none _ _ _ _, On.none _ _ _ _, hE.out⟩
theorem Ch.unpack_any {w : World} {A : Option Addr} {n c : Nat} {ws : List Int} (h : Wo w A n c ws) (hn : n ≤ 1000000) (head : Int) :
    Calls Try.prog 40 #[.slice A n c, .int .i64 head] w fun e w' => ∃ A1 n1 c1 A2 n2 c2, e = .returned (.tuple #[.slice A1 n1 c1, .slice A2 n2 c2, .int .i64 (Ch.uE (Ch.R ws head))]) ∧ On 37 .u32 w.heap.size A1 n1 c1 (Ch.uW ws (Ch.R ws head)) w' ∧ On 3 .i64 w.heap.size A2 n2 c2 (Ch.uS (Ch.R ws head)) w' ∧ Below w.heap.size w w' := by
  rcases Nat.eq_zero_or_pos n with rfl | hn0
  · exact Ch.unpack_none h head
  · obtain ⟨b, off, rfl⟩ := h.place hn0
    exact Ch.unpack_some h hn hn0 head
end Go.Proofs.Ytpfejjkoemnmiaa
/-
  The contract of the document's Unpack.
-/
namespace Go.Proofs.Ytpfejjkoemnmiaa
open Go.RowKit
set_option linter.unusedVariables false
set_option linter.unusedSimpArgs false
set_option maxRecDepth 100000
theorem Ch.U_next {ws : List Int} {r : Option (List Nat)} {dn : List Nat} {s : Nat} (h : r = (Ch.U ws (s + 1)).map (dn ++ ·)) (hs : Ch.lk ws s ≤ s) : r = (Ch.U ws (Ch.lk ws s)).map ((dn ++ [s]) ++ ·) := by
  rw [h, Ch.U_succ, if_pos hs, Option.map_map]
  congr 1
  funext t
  simp
end Go.Proofs.Ytpfejjkoemnmiaa
/-
  What the laws of package chain need, plainly. No Go function is named here.
-/
namespace Go.Proofs.Ytpfejjkoemnmiaa
open Go.RowKit
set_option linter.unusedVariables false
set_option linter.unusedSimpArgs false
set_option maxRecDepth 100000
theorem Ch.p_nil (ws : List Int) : Ch.pE ws [] = 0 ∧ Ch.pH ws [] = 0 ∧ Ch.pW ws [] = ws := by
  have hR : Ch.Rises ws.length [] := fun k hk => by simp at hk
  have hF : Ch.Fits ws [] := fun k hk => by simp at hk
  obtain ⟨a, b, c⟩ := Ch.pE_yes hR hF
  exact ⟨a, by rw [b]; rfl, by rw [c]; rfl⟩
theorem Ch.R_zero (ws : List Int) : Ch.R ws 0 = some [] := by
  unfold Ch.R
  rw [if_pos (by omega)]; rfl
theorem Ch.R_out {ws : List Int} {h : Int} (hh : h < 0 ∨ (ws.length : Int) < h) : Ch.R ws h = none := by
  unfold Ch.R
  rw [if_neg (by omega)]
theorem Ch.not_end {m : Nat} (ss : List Int) {x : Int} (h : (m : Int) ≤ x) : ¬ Ch.Rises m (ss ++ [x]) := fun r => by
  have := (r ss.length (by simp)).2.1
  rw [Ch.getD_last] at this
  omega
theorem Ch.not_neg (m : Nat) : ¬ Ch.Rises m [-1] := fun r => by
  have := (r 0 (by simp)).1
  exact absurd this (by decide)
theorem Ch.pE_7 {ws ss : List Int} (h : ¬ Ch.Rises ws.length ss) : Ch.pE ws ss = 7 := (Ch.pE_no h).1
theorem Ch.uE_10 {ws : List Int} {h : Int} (hh : Ch.R ws h = none) : Ch.uE (Ch.R ws h) = 10 := by rw [hh]; rfl
/-- the first k sites' words fit -/
def Ch.FitsTo (ws ss : List Int) (k : Nat) : Prop := ∀ j, j < k → Ch.val ws ss j ≤ 65535
instance (ws ss : List Int) (k : Nat) : Decidable (Ch.FitsTo ws ss k) := Nat.decidableBallLT k (fun j _ => Ch.val ws ss j ≤ 65535)
theorem Ch.fitsTo_succ {ws ss : List Int} {k : Nat} (h : Ch.FitsTo ws ss k) (h1 : Ch.val ws ss k ≤ 65535) : Ch.FitsTo ws ss (k + 1) := fun j hj => by
  rcases Nat.lt_or_ge j k with c | c
  · exact h j c
  · rw [show j = k by omega]; exact h1
theorem Ch.set_fits {vs ss : List Int} {k q : Nat} {x : Int} (h : ∀ j, j < k → vs.getD (ss.getD j 0).toNat 0 ≤ 65535) (hq : (ss.getD k 0).toNat = q) (hx : x ≤ 65535) (hl : q < vs.length) : ∀ j, j < k + 1 → (vs.set q x).getD (ss.getD j 0).toNat 0 ≤ 65535 := fun j hj => by
  rw [Ch.getD_set]
  split
  · exact hx
  · rename_i c
    rcases Nat.lt_or_ge j k with d | d
    · exact h j d
    · rw [show j = k by omega] at c ⊢
      exact absurd ⟨hq.symm, by omega⟩ c
/-- each later link turned back: no chain -/
theorem Ch.R_turned {W S : List Int} (hR : Ch.Rises W.length S) (i : Nat) (hi : i < S.length) (q : Nat) (hq : S.getD i 0 = (q : Int)) (x : Int) (hx : x % 65536 = (q : Int) + 1) : Ch.R ((Ch.pk W S S.length).set q x) (Ch.prev S S.length + 1) = none := by
  have h1 := Ch.prev_ge hR S.length (Nat.le_refl _)
  have h2 := Ch.prev_lt hR S.length (Nat.le_refl _)
  have ha := Ch.at_ge hR i hi
  unfold Ch.R
  rw [List.length_set, Ch.pk_len, if_pos (by omega)]
  refine Ch.turned hR i hi (fun j hj hji => ?_) ?_ S.length hi (Nat.le_refl _)
  · rw [Ch.getD_set, if_neg (fun e => Ch.apart hR j i hj hi hji (by rw [hq, Int.toNat_natCast]; exact e.1.symm))]
    exact Ch.pk_has hR j hj
  · rw [hq, Int.toNat_natCast, Ch.getD_set, if_pos ⟨rfl, by rw [Ch.pk_len]; omega⟩]
    exact hx
/-- a word that is no site stays -/
theorem Ch.pk_stays {W S : List Int} {q : Nat} (h : ∀ j, j < S.length → S.getD j 0 ≠ (q : Int)) (hR : Ch.Rises W.length S) : (Ch.pk W S S.length).getD q 0 = W.getD q 0 :=
  Ch.pk_off S.length fun j hj e => h j hj (by have := Ch.at_ge hR j hj; omega)
theorem Ch.un_rng {ws : List Int} (hw : ∀ x ∈ ws, 0 ≤ x ∧ x < 4294967296) : ∀ (d : List Nat) (v : List Int), (∀ x ∈ v, 0 ≤ x ∧ x < 4294967296) → ∀ x ∈ d.foldl (fun v s => v.set s (ws.getD s 0 / 65536)) v, 0 ≤ x ∧ x < 4294967296
  | [], v, hv => hv
  | s :: d, v, hv => by
    rw [List.foldl_cons]
    refine Ch.un_rng hw d _ fun x hx => ?_
    rcases List.mem_or_eq_of_mem_set hx with q | q
    · exact hv x q
    · have : 0 ≤ ws.getD s 0 ∧ ws.getD s 0 < 4294967296 := by
        rw [List.getD_eq_getElem?_getD]
        cases hq : ws[s]? with
        | none => simp
        | some y => exact hw y (List.mem_of_getElem? hq)
      omega
theorem Ch.uW_rng {ws : List Int} (hw : ∀ x ∈ ws, 0 ≤ x ∧ x < 4294967296) (r : Option (List Nat)) : ∀ x ∈ Ch.uW ws r, 0 ≤ x ∧ x < 4294967296 := by
  cases r with
  | none => intro x hx; cases hx
  | some d => exact Ch.un_rng hw d ws hw
/-- what Unpack tells: nothing, or a chain -/
theorem Ch.u_cases {w w' : World} {A B : Option Addr} {n c m d : Nat} {ws : List Int} {r : Option (List Nat)} (hU : Rg .u32 w A n c (Ch.uW ws r)) (hV : Rg .i64 w' B m d (Ch.uS r)) : (Ch.uE r = 10 ∧ 0 = n ∧ 0 = m) ∨ (Ch.uE r = 0 ∧ ∃ t, r = some t) := by
  cases r with
  | none => exact Or.inl ⟨rfl, hU.len, hV.len⟩
  | some t => exact Or.inr ⟨rfl, t, rfl⟩
theorem Ch.packs_again {ws : List Int} (hw : ws.length ≤ 65535) (hr : ∀ x ∈ ws, 0 ≤ x ∧ x < 4294967296) {head : Int} {d : List Nat} (h : Ch.R ws head = some d) :
    Ch.pE (Ch.uW ws (some d)) (Ch.uS (some d)) = 0 ∧ Ch.pH (Ch.uW ws (some d)) (Ch.uS (some d)) = head ∧ Ch.pW (Ch.uW ws (some d)) (Ch.uS (some d)) = ws := by
  obtain ⟨h1, h2, h3, h4⟩ := Ch.again hw hr h
  obtain ⟨e1, e2, e3⟩ := Ch.pE_yes h1 h2
  exact ⟨e1, e2.trans h4, e3.trans h3⟩
theorem Ch.u_back {W S : List Int} (hR : Ch.Rises W.length S) : Ch.R (Ch.pk W S S.length) (Ch.prev S S.length + 1) = some (Ch.down S S.length) ∧ Ch.uW (Ch.pk W S S.length) (some (Ch.down S S.length)) = W ∧ Ch.uS (some (Ch.down S S.length)) = S :=
  ⟨Ch.back hR, Ch.back_words hR, Ch.down_all hR⟩
theorem Ch.turn_word (x p : Int) (x0 : 0 ≤ x) (x1 : x < 4294967296) (p0 : 0 ≤ p) (p1 : p < 65535) : bits .or .u32 (bits .andNot .u32 x 65535) (p + 1) = x / 65536 * 65536 + (p + 1) := by
  rw [Ch.not_low x x0 x1]
  exact Ch.or_join (x / 65536) (p + 1) (by omega) (by omega) (by omega) (by omega)
/-- one site -/
theorem Ch.one_site {V : List Int} {hi : Nat} {x : Int} (h1 : hi < V.length) (h2 : hi ≤ 65534) (hx : V.getD hi 0 = x) (x1 : x ≤ 65535) :
    Ch.Rises V.length [(hi : Int)] ∧ Ch.pE V [(hi : Int)] = 0 ∧ Ch.pH V [(hi : Int)] = (hi : Int) + 1 ∧ Ch.pW V [(hi : Int)] = V.set hi (x * 65536) ∧ ∀ y, y % 65536 = (hi : Int) + 1 → Ch.R ((V.set hi (x * 65536)).set hi y) ((hi : Int) + 1) = none := by
  have hR : Ch.Rises V.length [(hi : Int)] := fun k hk => by
    obtain rfl : k = 0 := by simpa using hk
    refine ⟨?_, ?_, ?_⟩
    · show (-1 : Int) < (hi : Int); omega
    · show (hi : Int) < _; omega
    · show (hi : Int) ≤ _; omega
  have hF : Ch.Fits V [(hi : Int)] := fun k hk => by
    obtain rfl : k = 0 := by simpa using hk
    show V.getD (hi : Int).toNat 0 ≤ _
    rw [Int.toNat_natCast, hx]; exact x1
  have hp : Ch.pk V [(hi : Int)] 1 = V.set hi (x * 65536) := by
    show V.set (hi : Int).toNat (V.getD (hi : Int).toNat 0 * 65536 + ((-1 : Int) + 1)) = _
    rw [Int.toNat_natCast, hx]; congr 1; omega
  obtain ⟨e1, e2, e3⟩ := Ch.pE_yes hR hF
  refine ⟨hR, e1, e2, e3.trans hp, fun y hy => ?_⟩
  have := Ch.R_turned hR 0 (by simp) hi rfl y hy
  rw [show [(hi : Int)].length = 1 from rfl, hp] at this
  exact this
/-- two sites -/
theorem Ch.two_sites {V : List Int} {lo hi : Nat} {x y : Int} (h0 : lo < hi) (h1 : hi < V.length) (h2 : hi ≤ 65534) (hx : V.getD lo 0 = x) (hy : V.getD hi 0 = y) (x1 : x ≤ 65535) (y1 : y ≤ 65535) :
    Ch.pE V [(lo : Int), (hi : Int)] = 0 ∧ Ch.pH V [(lo : Int), (hi : Int)] = (hi : Int) + 1 ∧ Ch.pW V [(lo : Int), (hi : Int)] = (V.set lo (x * 65536)).set hi (y * 65536 + ((lo : Int) + 1)) := by
  have hR : Ch.Rises V.length [(lo : Int), (hi : Int)] := fun k hk => by
    match k, hk with
    | 0, _ =>
      refine ⟨?_, ?_, ?_⟩
      · show (-1 : Int) < (lo : Int); omega
      · show (lo : Int) < _; omega
      · show (lo : Int) ≤ _; omega
    | 1, _ =>
      refine ⟨?_, ?_, ?_⟩
      · show (lo : Int) < (hi : Int); omega
      · show (hi : Int) < _; omega
      · show (hi : Int) ≤ _; omega
  have hF : Ch.Fits V [(lo : Int), (hi : Int)] := fun k hk => by
    match k, hk with
    | 0, _ =>
      show V.getD (lo : Int).toNat 0 ≤ _
      rw [Int.toNat_natCast, hx]; exact x1
    | 1, _ =>
      show V.getD (hi : Int).toNat 0 ≤ _
      rw [Int.toNat_natCast, hy]; exact y1
  have hp : Ch.pk V [(lo : Int), (hi : Int)] 2 = (V.set lo (x * 65536)).set hi (y * 65536 + ((lo : Int) + 1)) := by
    show (V.set (lo : Int).toNat (V.getD (lo : Int).toNat 0 * 65536 + ((-1 : Int) + 1))).set (hi : Int).toNat (V.getD (hi : Int).toNat 0 * 65536 + ((lo : Int) + 1)) = _
    rw [Int.toNat_natCast, Int.toNat_natCast, hx, hy, show x * 65536 + ((-1 : Int) + 1) = x * 65536 by omega]
  obtain ⟨e1, e2, e3⟩ := Ch.pE_yes hR hF
  exact ⟨e1, e2, e3.trans hp⟩
theorem Ch.not_down {m : Nat} {a b : Int} (h : b ≤ a) : ¬ Ch.Rises m [a, b] := fun r => by
  have : a < b := (r 1 (by simp)).1
  omega
theorem Ch.set_rng {l : List Int} (h : ∀ x ∈ l, 0 ≤ x ∧ x < 4294967296) (i : Nat) {y : Int} (y0 : 0 ≤ y) (y1 : y < 4294967296) : ∀ x ∈ l.set i y, 0 ≤ x ∧ x < 4294967296 := fun x hx => (mem_set hx).elim (h x) (fun e => by rw [e]; exact ⟨y0, y1⟩)
end Go.Proofs.Ytpfejjkoemnmiaa
