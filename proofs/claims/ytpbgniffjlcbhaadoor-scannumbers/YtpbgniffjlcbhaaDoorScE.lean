/-
  ScanParts, walked.
-/
import Derived.Test.YtpbgniffjlcbhaaDoorScC
import Derived.Test.YtpbgniffjlcbhaaDoorScW
namespace Go.Proofs.YtpbgniffjlcbhaaDoor
open Go.RowKit
set_option linter.unusedVariables false
set_option linter.unusedSimpArgs false
set_option maxRecDepth 100000
theorem Bu.anyR {w : World} {R : Except Int (List Sc.Tk)} {v : Value} {w' : World} (h : Sc.LineR w R v w') : ∃ A n c x, v = .tuple #[.slice A n c, .int .i64 x] := by
  cases R with
  | error e => exact ⟨_, _, _, _, Bu.errR h⟩
  | ok l => obtain ⟨A, c, h1, _⟩ := Bu.okR h; exact ⟨_, _, _, _, h1⟩
def Bu.semi (c : Int) : Int := if c = 59 then 32 else c
def Bu.swap (xs : List Int) : List Int := xs.map Bu.semi
theorem Bu.swap_not (xs : List Int) : 59 ∉ Bu.swap xs := fun h => by
  obtain ⟨c, _, hc⟩ := List.mem_map.1 h
  unfold Bu.semi at hc
  split at hc <;> omega
theorem Bu.swap_byt {xs : List Int} (h : L.Byt xs) : L.Byt (Bu.swap xs) := fun x hx => by
  obtain ⟨c, h1, rfl⟩ := List.mem_map.1 hx
  have := h c h1
  unfold Bu.semi
  split <;> omega
theorem Bu.swap_len (xs : List Int) : (Bu.swap xs).length = xs.length := List.length_map ..
theorem Bu.swap_succ {xs : List Int} {k : Nat} {y : Int} (h : xs[k]? = some y) : (Bu.swap xs).take (k + 1) = (Bu.swap xs).take k ++ [Bu.semi y] := by
  rw [List.take_add_one]
  congr 1
  unfold Bu.swap
  rw [List.getElem?_map, h]; rfl
theorem Bu.cut_bs (s : ByteArray) : L.bs (Bu.cut s) = (L.bs s).take (min s.size 100) := by
  unfold Bu.cut
  rw [Sc.bs_extract, List.drop_zero, Nat.sub_zero]
theorem Bu.cut_at {s : ByteArray} {k : Nat} {y : Int} (h : (L.bs (Bu.cut s))[k]? = some y) : (L.bs s)[k]? = some y := by
  rw [Bu.cut_bs, List.getElem?_take] at h
  split at h
  · exact h
  · cases h
theorem Bu.one_str {s : ByteArray} {k : Nat} {y : Int} (h : (L.bs s)[k]? = some y) : s.extract k (k + 1) = strOfNums [y] := by
  rw [← L.str_bs (s.extract k (k + 1)), Sc.bs_extract, Nat.add_sub_cancel_left, Sc.drop_at h]; rfl
set_option maxHeartbeats 8000000 in
set_option maxRecDepth 100000 in
theorem walk_parts (W : World) (s b : ByteArray) (hs : s.size ≤ maxLen) (hb : b.size ≤ maxLen) (hE : Sc.Errs W) :
    Calls Tryd.prog 7 #[.string s, .string b] W fun e w' => e = .returned (.bool true) ∧ Below W.heap.size W w' := by
  have z1 := Bu.cut_size s
  have z2 := Bu.cut_size b
  obtain ⟨m, hm⟩ : ∃ m, (Bu.cut s).size = m := ⟨_, rfl⟩
  have hbl := L.bs_len (Bu.cut s)
  have hcs : m ≤ s.size := by rw [← hm]; unfold Bu.cut; simp; omega
  rw [hm] at hbl z1
  obtain ⟨X, hX⟩ : ∃ X, Bu.swap (L.bs (Bu.cut s)) = X := ⟨_, rfl⟩
  have hXl : X.length = m := by rw [← hX, Bu.swap_len, hbl]
  have hXb : L.Byt X := by rw [← hX]; exact Bu.swap_byt (Sc.byt _)
  have hX59 : 59 ∉ X := by rw [← hX]; exact Bu.swap_not _
  have zX := strOfNums_size X
  rw [hXl] at zX
  have hXs : ∀ (k : Nat) (y : Int), (L.bs (Bu.cut s))[k]? = some y → X.take (k + 1) = X.take k ++ [Bu.semi y] := fun k y h => by rw [← hX]; exact Bu.swap_succ h
  replace hXs := Lib.hid hXs
  have l3 : Sc.line (L.bs (strOfNums X ++ (⟨#[32]⟩ : ByteArray) ++ Bu.cut b)) = match Sc.line X with | .ok l => Sc.pre l (Sc.shift ((X.length : Int) + 1) (Sc.line (L.bs (Bu.cut b)))) | .error e => .error e := by
    rw [Bu.bs_app, Bu.bs_app, L.bs_str _ hXb, List.append_assoc, show L.bs ⟨#[32]⟩ = [32] from rfl]
    exact Sc.parts X _ hX59
  have z3 : (strOfNums X ++ (⟨#[32]⟩ : ByteArray) ++ Bu.cut b).size ≤ 201 := by rw [ByteArray.size_append, ByteArray.size_append, zX, show (⟨#[32]⟩ : ByteArray).size = 1 from rfl]; omega
  obtain ⟨Z, hZ⟩ : ∃ Z, strOfNums X ++ (⟨#[32]⟩ : ByteArray) ++ Bu.cut b = Z := ⟨_, rfl⟩
  rw [hZ] at l3 z3
  replace hZ := Lib.hid hZ
  rw [hXl] at l3
  have lX : Sc.line (L.bs (strOfNums X)) = Sc.line X := by rw [L.bs_str _ hXb]
  have hm1 : (m : Int) ≤ 100 := by omega
  have hm2 : (m : Int) ≤ (s.size : Int) := by omega
  have hcz : ((Bu.cut s).size : Int) = (m : Int) := by omega
  have hsmax : (s.size : Int) ≤ 9223372036854775807 := by unfold maxLen at hs; omega
  replace hX := Lib.hid hX
  replace hX59 := Lib.hid hX59
  replace hXb := Lib.hid hXb
  replace l3 := Lib.hid l3
  replace lX := Lib.hid lX
  go_enter Tryd.func7, Tryd.ntmps7
  go_wp2_with (fail)
  refine (Bu.shown_any W hE).mono ?_; rintro e' w1 ⟨rfl, hB⟩
  have hE1 := Lib.hid (hE.below hB)
  replace hB := Lib.hid hB
  go_wp2
  go_loopw [6, 7] (fun x i wr => ∃ k : Nat, k ≤ m ∧ i = .int .i64 (k : Int) ∧ x = .string (strOfNums (X.take k)) ∧ w1 = wr) (fun _ i _ => m - (intOf i).toNat)
  case atStart => exact ⟨0, Nat.zero_le _, rfl, rfl, rfl⟩
  case round =>
    obtain ⟨k, hk, rfl, rfl, rfl⟩ := hrel
    have hk0 : (0 : Int) ≤ (k : Int) := by omega
    go_wp2_with (fail)
    refine (Bu.few_any s hs _).mono ?_; rintro e' w2 ⟨rfl, rfl⟩
    by_cases hkm : k < m
    · have c1 : (k : Int) < (m : Int) := by omega
      obtain ⟨y, hy⟩ : ∃ y, (L.bs (Bu.cut s))[k]? = some y := ⟨_, List.getElem?_eq_getElem (by omega)⟩
      have hy2 := Bu.cut_at hy
      obtain ⟨hk2, hxs⟩ := L.at_of hy2
      have h1 := Bu.one_str hy2
      have h2 := hXs.out k y hy
      have q1 : (strOfNums (X.take k)).size = (X.take k).length := strOfNums_size _
      have q2 : (X.take k).length ≤ 100 := by rw [List.length_take]; omega
      have q3 : (s.extract k (k + 1)).size = 1 := by rw [h1, strOfNums_size]; rfl
      by_cases h59 : y = 59
      · subst h59
        have h3 := Lib.hid (show strOfNums (X.take k) ++ (⟨#[32]⟩ : ByteArray) = strOfNums (X.take (k + 1)) by
          rw [h2, ← Bu.strs]; rfl)
        clear h1 h2 hy hy2
        go_wp2
        go_roundw
        case rel => exact ⟨k + 1, by omega, by go_num, by rw [h3.out], by trivial⟩
        case measure => simp [intOf]; omega
      · have d59 : (y == 59) = false := by simpa using h59
        have h3 := Lib.hid (show strOfNums (X.take k) ++ s.extract k (k + 1) = strOfNums (X.take (k + 1)) by
          rw [h1, Bu.strs, h2, show Bu.semi y = y by unfold Bu.semi; rw [if_neg h59]])
        clear h1 h2 hy hy2
        go_wp2
        go_roundw
        case rel => exact ⟨k + 1, by omega, by go_num, by rw [h3.out], by trivial⟩
        case measure => simp [intOf]; omega
    · obtain rfl : k = m := by omega
      have ht : X.take k = X := List.take_of_length_le (by omega)
      rw [ht]
      have nc : ¬ (k : Int) < (k : Int) := by omega
      go_wp2_with (fail)
      refine (Bu.few_any b hb _).mono ?_; rintro e' w2 ⟨rfl, rfl⟩
      clear hbl hm hcs hXs hX ht nc hkm hk hm2 hcz hsmax hs hb
      go_wp2_with (fail)
      refine (Sc.line_any (strOfNums X) (by omega) w1 hE1.out).mono ?_; rintro e' w2 ⟨v, rfl, hR, hB2⟩
      rw [lX.out] at hR
      replace hE1 := Lib.hid (hE1.out.below hB2)
      replace hB := Lib.hid (hB.out.trans (hB2.mono hB.out.size))
      clear hB2 lX hE
      cases h1 : Sc.line X with
      | error e =>
        rw [h1] at hR l3
        have he := Sc.line_errs h1
        obtain rfl := Bu.errR hR
        clear hR h1
        go_wp2_with (fail)
        refine (Sc.line_any (Bu.cut b) (by omega) w2 hE1.out).mono ?_; rintro e' w3 ⟨v, rfl, hR, hB2⟩
        obtain ⟨A, n, c, x, rfl⟩ := Bu.anyR hR
        replace hE1 := Lib.hid (hE1.out.below hB2)
        replace hB := Lib.hid (hB.out.trans (hB2.mono hB.out.size))
        clear hB2 hR
        go_wp2_with (fail)
        rw [hZ.out]
        refine (Sc.line_any Z (by omega) w3 hE1.out).mono ?_; rintro e' w4 ⟨v, rfl, hR, hB2⟩
        rw [l3.out] at hR
        obtain rfl := Bu.errR hR
        replace hB := Lib.hid (hB.out.trans (hB2.mono hB.out.size))
        clear hB2 hR l3 hE1
        rcases he with rfl | rfl
        all_goals
          go_wp2
          go_ret
          exact ⟨rfl, hB.out⟩
      | ok l =>
        have bl : ∀ y ∈ l, L.Byt y.t := fun y hy => Sc.ok_byt (Sc.line_ok h1 y hy)
        have nl := (Sc.line_len h1).1
        rw [h1] at hR l3
        obtain ⟨A1, c1, rfl, hO1⟩ := Bu.okR hR
        obtain ⟨n1, hn1⟩ : ∃ n1, l.length = n1 := ⟨_, rfl⟩
        rw [hn1] at hO1 nl ⊢
        replace hO1 := Lib.hid hO1
        clear hR h1
        go_wp2_with (fail)
        refine (Sc.line_any (Bu.cut b) (by omega) w2 hE1.out).mono ?_; rintro e' w3 ⟨v, rfl, hR, hB2⟩
        cases h2 : Sc.line (L.bs (Bu.cut b)) with
        | error f =>
          rw [h2] at hR l3
          replace l3 := Lib.hid (show Sc.line (L.bs Z) = .error f from l3.out)
          have he := Sc.line_errs h2
          obtain rfl := Bu.errR hR
          replace hE1 := Lib.hid (hE1.out.below hB2)
          replace hB := Lib.hid (hB.out.trans (hB2.mono hB.out.size))
          clear hR h2 hB2 hO1
          go_wp2_with (fail)
          rw [hZ.out]
          refine (Sc.line_any Z (by omega) w3 hE1.out).mono ?_; rintro e' w4 ⟨v, rfl, hR, hB2⟩
          rw [l3.out] at hR
          obtain rfl := Bu.errR hR
          replace hB := Lib.hid (hB.out.trans (hB2.mono hB.out.size))
          clear hB2 hR l3 hE1
          rcases he with rfl | rfl
          all_goals
            go_wp2
            go_ret
            exact ⟨rfl, hB.out⟩
        | ok mm =>
          have bm : ∀ y ∈ mm, L.Byt y.t := fun y hy => Sc.ok_byt (Sc.line_ok h2 y hy)
          have nm := (Sc.line_len h2).1
          have pm := Sc.line_pos h2
          rw [L.bs_len] at nm pm
          rw [h2] at hR l3
          replace l3 := Lib.hid (show Sc.line (L.bs Z) = .ok (l ++ mm.map (Sc.mv ((k : Int) + 1))) from l3.out)
          obtain ⟨A2, c2, rfl, hO2⟩ := Bu.okR hR
          obtain ⟨n2, hn2⟩ : ∃ n2, mm.length = n2 := ⟨_, rfl⟩
          rw [hn2] at hO2 nm ⊢
          have hlt := hO2.ltAll
          replace hO1 := Lib.hid hO1.out.tr
          replace hE1 := Lib.hid (hE1.out.below hB2)
          have hF := Lib.hid hB2
          replace hO2 := Lib.hid hO2
          clear hR h2 hB2
          go_wp2_with (fail)
          rw [hZ.out]
          refine (Sc.line_any Z (by omega) w3 hE1.out).mono ?_; rintro e' w4 ⟨v, rfl, hR, hB2⟩
          rw [l3.out] at hR
          obtain ⟨A3, c3, rfl, hO3⟩ := Bu.okR hR
          obtain ⟨n3, hn3⟩ : ∃ n3, (l ++ mm.map (Sc.mv ((k : Int) + 1))).length = n3 := ⟨_, rfl⟩
          rw [hn3] at hO3 ⊢
          have hn3' : n3 = n1 + n2 := by rw [← hn3, List.length_append, List.length_map, hn1, hn2]
          replace hO2 := Lib.hid (hO2.out.below hB2)
          replace hO3 := Lib.hid hO3
          have hw3 := hF.out.size
          replace hF := hF.out.trans (hB2.mono hF.out.size)
          replace hF := Lib.hid hF
          replace pm := Lib.hid (fun j hj => pm _ (Sc.tk_mem (ys := mm) (k := j) hj))
          rw [hn2] at pm
          replace bl := Lib.hid bl
          replace bm := Lib.hid bm
          replace hlt := Lib.hid hlt
          clear hR hB2 l3 hE1 hn3 hZ
          have nn : (n2 : Int) ≤ 100 := by omega
          have kk : (k : Int) ≤ 100 := by omega
          go_wp2
          go_loopw [15] (fun i wr => ∃ j : Nat, j ≤ n2 ∧ i = .int .i64 (j : Int) ∧ Below w2.heap.size w2 wr ∧ Oz 34 w2.heap.size A2 n2 c2 (Sc.half ((k : Int) + 1) mm j) wr ∧ Oz 34 w3.heap.size A3 n3 c3 (l ++ mm.map (Sc.mv ((k : Int) + 1))) wr) (fun i _ => n2 - (intOf i).toNat)
          case atStart => exact ⟨0, Nat.zero_le _, rfl, hF.out, hO2.out, hO3.out⟩
          case round =>
            obtain ⟨j, hj, rfl, hG, hM, hO⟩ := hrel
            clear hO2 hO3
            have hj0 : (0 : Int) ≤ (j : Int) := by omega
            by_cases hjn : j < n2
            · have c1' : (j : Int) < (n2 : Int) := by omega
              obtain ⟨g, rfl⟩ : ∃ g, A2 = some ⟨g, 0, Option.none⟩ := by
                rcases hM.cases with ⟨_, q, _⟩ | ⟨g, q, _⟩
                · omega
                · exact ⟨g, q⟩
              obtain ⟨_, g1, _, _⟩ := hM.tr.four j hjn
              have hge := hM.has.1
              have hgl := hlt.out g rfl
              have f1 := hM.free (j * 4 + 1)
              have hp := pm.out j hjn
              rw [Sc.half_tk _ (by omega)] at g1
              have hS := Sc.half_set ((k : Int) + 1) ((Sc.tk mm j).p + (k : Int) + 1) (xs := mm) (k := j) (by omega) (by omega)
              have hM2 := hM.set j hjn ((Sc.tk mm j).p + (k : Int) + 1)
              rw [hS] at hM2
              simp only [Nat.zero_add] at g1
              generalize (Sc.tk mm j).p = p at *
              replace hM2 := Lib.hid hM2
              have hO' := Lib.hid (hO.ahead hgl (j * 4 + 1) (.int .i64 (p + (k : Int) + 1)))
              have hG' := Lib.hid (hG.setCell (p := ⟨g, j * 4 + 1, Option.none⟩) hge (.int .i64 (p + (k : Int) + 1)))
              clear hM hO hG hS
              go_wp2
              go_roundw
              case rel => exact ⟨j + 1, by omega, by go_num, hG'.out, hM2.out, hO'.out⟩
              case measure => simp [intOf]; omega
            · obtain rfl : j = n2 := by omega
              rw [Sc.half_all _ _ _ hn2] at hM
              replace hB := Lib.hid (hB.out.trans (hG.mono hB.out.size))
              have hA := ((Kept.refl wr).alloc #[] 34).below
              have hN := Lib.hid (Oz.new 34 wr wr.heap.size (Nat.le_refl _))
              have tL := Lib.hid ((hO1.out.below hG).below hA)
              have tM := Lib.hid hM.tr
              have tO := Lib.hid hO.tr
              have hAs : wr.heap.size ≤ (wr.alloc (.cells #[] 34)).heap.size := hA.size
              replace hA := Lib.hid hA
              clear hM hO hG hO1 hF hlt pm
              go_wp2_with (first
                | (with_reducible refine append_trW (o := ⟨some 111, _, _, _, _, _⟩) Tryd.underlying22 Sc.info34b rfl (by omega) rfl (.tmp 109) (.tmp 110) rfl wr.heap.size (some ⟨wr.heap.size, 0, Option.none⟩) 0 0 [] rfl hN.out A1 n1 c1 l rfl tL.out (by omega) hAs (by simp) ?_
                   intro g' cap' w5 hO5 hG5
                   have hA5 := hA.out.grown hG5 hAs (fun q hq => hN.out.from q hq)
                   have hs5 := hA5.size
                   have hO6 : Oz 34 wr.heap.size (some ⟨g', 0, Option.none⟩) n1 cap' l w5 := by
                     rw [Nat.zero_add, List.nil_append] at hO5
                     exact hO5
                   have tM5 := Lib.hid (tM.out.below hA5)
                   replace hA5 := Lib.hid hA5
                   replace hO6 := Lib.hid hO6
                   clear hO5 hG5 hN tL hA)
                | (with_reducible refine append_trW (o := ⟨some 113, _, _, _, _, _⟩) Tryd.underlying22 Sc.info34b rfl (by omega) rfl (.tmp 111) (.tmp 112) rfl wr.heap.size (some ⟨g', 0, Option.none⟩) n1 cap' l rfl hO6.out A2 j c2 _ rfl tM5.out (by omega) hs5 (by simp) ?_
                   intro g2 cap2 w6 hO7 hG7
                   have hA7 := hA5.out.grown hG7 hs5 (fun q hq => hO6.out.from q hq)
                   have tO7 := Lib.hid (tO.out.below hA7)
                   replace hB := Lib.hid (hB.out.trans (hA7.mono hB.out.size))
                   replace hO7 := Lib.hid hO7
                   clear hG7 hA5 hO6 tM tO tM5 hs5)
                | fail)
              have by3 : ∀ y ∈ l ++ mm.map (Sc.mv ((k : Int) + 1)), L.Byt y.t := fun y hy => by
                rcases List.mem_append.1 hy with hy | hy
                · exact bl.out y hy
                · exact Sc.mv_byt bm.out y hy
              subst hn3'
              refine (Bu.same_any tO7.out hO7.out.tr by3 by3).mono ?_; rintro e' w7 ⟨rfl, hB2⟩
              rw [decide_eq_true rfl]
              replace hB := Lib.hid (hB.out.trans (hB2.mono hB.out.size))
              clear hB2 by3 tO7 hO7
              go_wp2
              go_ret
              exact ⟨rfl, hB.out⟩
end Go.Proofs.YtpbgniffjlcbhaaDoor
