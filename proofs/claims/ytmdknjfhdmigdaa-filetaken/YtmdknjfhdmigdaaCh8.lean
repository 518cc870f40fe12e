/-
  The contract of the document's Unpack.
-/
import Derived.Test.YtmdknjfhdmigdaaCh7
namespace Go.Proofs.Ytmdknjfhdmigdaa
open Go.RowKit
set_option linter.unusedVariables false
set_option linter.unusedSimpArgs false
set_option maxRecDepth 100000
theorem Ch.U_next {ws : List Int} {r : Option (List Nat)} {dn : List Nat} {s : Nat} (h : r = (Ch.U ws (s + 1)).map (dn ++ ·)) (hs : Ch.lk ws s ≤ s) : r = (Ch.U ws (Ch.lk ws s)).map ((dn ++ [s]) ++ ·) := by
  rw [h, Ch.U_succ, if_pos hs, Option.map_map]
  congr 1
  funext t
  simp
theorem Ch.runpack_out {w : World} {A : Option Addr} {n c : Nat} (hn : n ≤ 1000000) (head : Int) (h : ¬ (0 ≤ head ∧ head ≤ (n : Int))) :
    Calls Try.prog 31 #[.slice A n c, .int .i64 head] w fun e w' => e = .returned (.tuple #[.slice none 0 0, .slice none 0 0, .int .i64 10]) ∧ w = w' := by
  by_cases c1 : head < 0
  · clear h
    go_enter Try.func31, Try.ntmps31
    go_wp2
    go_ret3
    exact ⟨rfl, rfl⟩
  · have c2 : (n : Int) < head := by omega
    clear h
    go_enter Try.func31, Try.ntmps31
    go_wp2
    go_ret3
    exact ⟨rfl, rfl⟩
set_option maxRecDepth 100000 in
set_option maxHeartbeats 1000000 in
theorem Ch.runpack_in {w : World} {A : Option Addr} {n c : Nat} {ws : List Int} (h : Wo w A n c ws) (hn : n ≤ 1000000) (hd : Nat) (hh : hd ≤ n) (r : Option (List Nat)) (hR0 : r = (Ch.U ws hd).map ([] ++ ·)) :
    Calls Try.prog 31 #[.slice A n c, .int .i64 (hd : Int)] w fun e w' => ∃ A1 n1 c1 A2 n2 c2, e = .returned (.tuple #[.slice A1 n1 c1, .slice A2 n2 c2, .int .i64 (Ch.uE r)]) ∧ On 45 .u32 w.heap.size A1 n1 c1 (Ch.uW ws r) w' ∧ On 3 .i64 w.heap.size A2 n2 c2 (Ch.uS r) w' ∧ Below w.heap.size w w' := by
  have hlw := h.len
  have H := Lib.hid h
  replace hR0 := Lib.hid hR0
  have c1 : ¬ (hd : Int) < 0 := by omega
  have c2 : ¬ (n : Int) < (hd : Int) := by omega
  have hA1 := ((Kept.refl w).alloc #[] 45).below
  have hO := Lib.hid (Ow.new 45 .u32 w w.heap.size (Nat.le_refl _))
  have hW := Lib.hid (h.below hA1)
  have hs1 : w.heap.size ≤ (w.alloc (.cells #[] 45)).heap.size := hA1.size
  have hE := Lib.hid hA1
  clear hA1 h
  go_enter Try.func31, Try.ntmps31
  go_wp2_with (with_reducible refine append_row (o := ⟨some 22, _, _, _, _, _⟩) Try.underlying22 Ch.info32 (by omega) rfl (.tmp 20) (.tmp 21) rfl w.heap.size w.heap.size 0 0 [] rfl hO.out _ n c ws rfl hW.out (by omega) hs1 ?_; intro g c' w3 hO3 hG3)
  rw [List.nil_append, Nat.zero_add] at hO3
  have hE3 := hE.out.grown hG3 hs1 (fun q e => by cases e; exact Nat.le_refl _)
  have hb0 : w.heap.size ≤ g := hO3.has.1
  have hA2 := ((Kept.refl w3).alloc #[] 3).below
  have hS0 := Lib.hid (Ow.new 3 .i64 w3 w.heap.size hE3.size)
  have hV0 := Lib.hid (hO3.below hA2)
  have hE0 := Lib.hid (hE3.trans (hA2.mono hE3.size))
  clear hG3 hO hE hW hs1 hA2 hE3 hO3
  generalize w3.alloc (.cells #[] 3) = w4 at *
  go_loopw [1, 8, 9, 10, 11] (fun lv sv _ _ _ wr => ∃ (l : Nat) (dn : List Nat) (g2 c2 : Nat), lv = .int .i64 (l : Int) ∧ sv = .slice (some ⟨g2, 0, none⟩) dn.length c2 ∧ l ≤ n ∧ dn.length + l ≤ n ∧ (∀ q ∈ dn, l ≤ q) ∧ r = (Ch.U ws l).map (dn ++ ·) ∧ Ow 3 .i64 w.heap.size g2 dn.length c2 (dn.reverse.map Int.ofNat) wr ∧ Ow 45 .u32 w.heap.size g n c' (Ch.un ws dn) wr ∧ Below w.heap.size w wr) (fun lv _ _ _ _ _ => (intOf lv).toNat)
  case atStart => exact ⟨hd, [], w3.heap.size, 0, rfl, rfl, hh, by simp; omega, by simp, hR0.out, hS0.out, hV0.out, hE0.out⟩
  case round =>
    clear hR0 hS0 hV0 hE0 hh c1 c2
    obtain ⟨l, dn, g2, c2, rfl, rfl, hl, hdl, hlow, hr, hS, hV, hE⟩ := hrel
    cases l with
    | zero =>
      rw [Ch.U_zero, Option.map_some, List.append_nil] at hr
      subst hr
      replace hS := Lib.hid hS
      replace hV := Lib.hid hV
      replace hE := Lib.hid hE
      clear hlow
      go_wp2
      go_ret3
      exact ⟨_, n, c', _, dn.length, c2, rfl, hV.out.on, hS.out.on, hE.out⟩
    | succ s =>
      have hsn : s < n := by omega
      have hsi : (s : Int) < n := by omega
      have x0 := H.out.atR (by decide) s
      have hoff : (Ch.un ws dn).getD s 0 = ws.getD s 0 := Ch.un_off ws s dn ws (fun q => by have := hlow s q; omega)
      have g1 := hV.at s hsn
      rw [hoff] at g1
      have f1 := hV.free s
      have hK : (Ch.lk ws s : Int) = ws.getD s 0 % 65536 := by unfold Ch.lk; omega
      have l3 : ((s + 1 : Nat) : Int) = (s : Int) + 1 := by omega
      have l4 : (0 : Int) < (s : Int) + 1 := by omega
      rw [l3]
      by_cases e1 : Ch.lk ws s ≤ s
      · have e2 : ¬ (s : Int) < ws.getD s 0 % 65536 := by omega
        replace hr := Lib.hid (Ch.U_next hr e1)
        have hlow2 := Lib.hid (show ∀ q ∈ dn ++ [s], Ch.lk ws s ≤ q from fun q hq => by
          rcases List.mem_append.1 hq with h1 | h1
          · have := hlow q h1; omega
          · have : q = s := by simpa using h1
            omega)
        have hV2 := hV.set s (ws.getD s 0 / 65536)
        rw [← Ch.un_snoc] at hV2
        have hne := hS.apartC hV (by decide)
        have hS2 := hS.to (w' := wr.setCell ⟨g, s, none⟩ (.int .u32 (ws.getD s 0 / 65536))) (Below.heap_setCell _ _ _ _ hne)
        have hE2 := hE.setCell (p := ⟨g, s, none⟩) hb0 (.int .u32 (ws.getD s 0 / 65536))
        replace hK := Lib.hid hK
        clear hS hV hE hlow hoff l3 hne
        generalize ws.getD s 0 = x at *
        obtain ⟨x0, x1⟩ := x0
        generalize hw2 : wr.setCell ⟨g, s, none⟩ (.int .u32 (x / 65536)) = w2 at *
        have hA1 := ((Kept.refl w2).alloc #[.int .i64 (s : Int)] 3).below
        have hY := Lib.hid (Ow.one 3 .i64 (s : Int) w2 w.heap.size hE2.size)
        have hgl : g < w2.heap.size := hV2.lt
        have hwz := hE2.size
        have hE3 := hE2.trans (hA1.mono hE2.size)
        have hs3 : w.heap.size ≤ (w2.alloc (.cells #[.int .i64 (s : Int)] 3)).heap.size := hE3.size
        replace hE3 := Lib.hid hE3
        have hS3 := Lib.hid (hS2.below hA1)
        have hV3 := Lib.hid (hV2.below hA1)
        have hD := Lib.hid hw2
        clear hA1 hE2 hS2 hV2 hw2
        go_wp2_with (first
          | (rw [hD.out])
          | (with_reducible refine append_rg (o := ⟨some 46, _, _, _, _, _⟩) Try.underlying23 Ch.info64 (by omega) rfl (.tmp 44) (.tmp 45) rfl w.heap.size w2.heap.size 1 1 [(s : Int)] rfl hY.out _ dn.length c2 (dn.reverse.map Int.ofNat) rfl hS3.out.rg (by omega) hs3 ?_; intro g3 cap3 w4 hS4 hG4
             have hE4 := Lib.hid (hE3.out.grown hG4 hs3 (fun q e => by cases e; exact hwz))
             have hV4 := Lib.hid (hV3.out.grown hG4 (fun e => by cases e; omega))
             replace hS4 := Lib.hid hS4
             clear hG4 hE3 hS3 hV3 hY hs3 hD))
        go_roundw
        case rel => exact ⟨Ch.lk ws s, dn ++ [s], g3, cap3, by rw [hK.out], by rw [List.length_append, Nat.add_comm]; rfl, by omega, by rw [List.length_append]; simp; omega, hlow2.out, hr.out, by rw [List.length_append, List.reverse_append, Nat.add_comm]; exact hS4.out, hV4.out, hE4.out⟩
        case measure => simp [intOf]; omega
      · have e2 : (s : Int) < ws.getD s 0 % 65536 := by omega
        rw [Ch.U_succ, if_neg e1, Option.map_none] at hr
        subst hr
        replace hE := Lib.hid hE
        clear hS hV hK hoff hlow l3 e1
        generalize ws.getD s 0 = x at *
        obtain ⟨x0, x1⟩ := x0
        go_wp2
        go_ret3
        exact ⟨none, 0, 0, none, 0, 0, rfl, On.none _ _ _ _, On.none _ _ _ _, hE.out⟩
theorem Ch.runpack_any {w : World} {A : Option Addr} {n c : Nat} {ws : List Int} (h : Wo w A n c ws) (hn : n ≤ 1000000) (head : Int) :
    Calls Try.prog 31 #[.slice A n c, .int .i64 head] w fun e w' => ∃ A1 n1 c1 A2 n2 c2, e = .returned (.tuple #[.slice A1 n1 c1, .slice A2 n2 c2, .int .i64 (Ch.uE (Ch.R ws head))]) ∧ On 45 .u32 w.heap.size A1 n1 c1 (Ch.uW ws (Ch.R ws head)) w' ∧ On 3 .i64 w.heap.size A2 n2 c2 (Ch.uS (Ch.R ws head)) w' ∧ Below w.heap.size w w' := by
  have hl := h.len
  by_cases c1 : 0 ≤ head ∧ head ≤ (n : Int)
  · obtain ⟨hd, rfl⟩ := Int.eq_ofNat_of_zero_le c1.1
    refine Ch.runpack_in h hn hd (by omega) _ ?_
    unfold Ch.R
    rw [hl, if_pos c1, Int.toNat_natCast]
    cases Ch.U ws hd <;> rfl
  · have e : Ch.R ws head = none := by unfold Ch.R; rw [hl, if_neg c1]
    rw [e]
    exact (Ch.runpack_out hn head c1).mono fun e w' ⟨q1, q2⟩ => ⟨none, 0, 0, none, 0, 0, q1, On.none _ _ _ _, On.none _ _ _ _, q2 ▸ Below.refl _ _⟩
end Go.Proofs.Ytmdknjfhdmigdaa
