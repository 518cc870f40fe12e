/-
  The document's Line, walked.
-/
import Derived.Test.YtpbgniffjlcbhaaDoorSc5
namespace Go.Proofs.YtpbgniffjlcbhaaDoor
open Go.RowKit
set_option linter.unusedVariables false
set_option linter.unusedSimpArgs false
set_option maxRecDepth 100000
structure Sc.Own (w0 : World) (l : List Sc.Tk) (A : Option Addr) (n c : Nat) (w : World) : Prop where
  below : Below w0.heap.size w0 w
  row : Oz 34 w0.heap.size A n c l w
theorem Oz.ltAll {e : TypeId} {base n c : Nat} {C : Option Addr} {ys : List Sc.Tk} {w : World} (h : Oz e base C n c ys w) : ∀ q, (Value.slice C n c).ownBlock = some q → q < w.heap.size := fun q hq => by
  rcases h.cases with ⟨rfl, rfl, rfl, rfl⟩ | ⟨g, rfl, h⟩
  · cases hq
  · cases hq; exact h.lt
theorem Sc.Own.any {w0 w : World} {l : List Sc.Tk} {A : Option Addr} {n c : Nat} (h : Sc.Own w0 l A n c w) (cs : Array Value) : Sc.Own w0 l A n c (w.alloc (.cells cs 34)) :=
  have hA := ((Kept.refl w).alloc cs 34).below
  ⟨h.below.trans (hA.mono h.below.size), h.row.below hA⟩
theorem Sc.Own.two {w0 w : World} {l : List Sc.Tk} {A : Option Addr} {n c : Nat} (h : Sc.Own w0 l A n c w) (y : Sc.Tk) (t : ByteArray) (ht : t = strOfNums y.t) (W : World) (hW : W = (w.alloc (.cells #[.int .i64 y.k, .int .i64 y.p, .string t, .int .u32 y.n] 34)).alloc (.cells #[.int .i64 y.k, .int .i64 y.p, .string t, .int .u32 y.n] 34)) :
    Sc.Own w0 l A n c W ∧ Tr W (some ⟨w.heap.size + 1, 0, Option.none⟩) 1 1 [y] := by
  subst hW ht
  exact ⟨(h.any _).any _, Tr.one (y := y) (Has.new1 _ _ _ _)⟩
theorem Sc.Own.grown {w0 w w' : World} {l l' : List Sc.Tk} {A A' : Option Addr} {n c n' c' : Nat} (h : Sc.Own w0 l A n c w) (hg : w.grownBy w' (Value.slice A n c).ownBlock) (hO : Oz 34 w0.heap.size A' n' c' l' w') : Sc.Own w0 l' A' n' c' w' :=
  ⟨h.below.grown hg h.below.size (fun q hq => h.row.from q hq), hO⟩
theorem Sc.bs_from (s : ByteArray) (k : Nat) : L.bs (s.extract k s.size) = (L.bs s).drop k := by
  rw [Sc.bs_extract]
  have := L.bs_len s
  exact List.take_of_length_le (by rw [List.length_drop]; omega)
set_option maxHeartbeats 8000000 in
set_option maxRecDepth 100000 in
theorem Sc.rline_any (s : ByteArray) (hs : s.size ≤ 100000) (w0 : World) : Calls Tryd.prog 11 #[.string s] w0 fun e w' => ∃ v, e = .returned v ∧ Sc.LineR w0 (Sc.line (L.bs s)) v w' ∧ Below w0.heap.size w0 w' := by
  have hls := L.bs_len s
  have hs1 : (s.size : Int) ≤ 100000 := by omega
  go_enter Tryd.func11, Tryd.ntmps11
  go_wp2
  go_loopw [4, 5] (fun o i wr => ∃ (k n c : Nat) (A : Option Addr) (l : List Sc.Tk), k ≤ s.size ∧ i = .int .i64 (k : Int) ∧ o = .slice A n c ∧ n ≤ k ∧ Sc.Own w0 l A n c wr ∧ Hid (Sc.line (L.bs s) = Sc.pre l (Sc.run ((L.bs s).drop k) k))) (fun _ i _ => s.size - (intOf i).toNat)
  case atStart => exact ⟨0, 0, 0, some ⟨w0.heap.size, 0, Option.none⟩, [], Nat.zero_le _, rfl, rfl, Nat.le_refl _, ⟨((Kept.refl w0).alloc #[] _).below, Oz.new _ _ _ (Nat.le_refl _)⟩, Lib.hid (by
      unfold Sc.line
      rw [Sc.pre_nil, List.drop_zero]
      rfl)⟩
  case round =>
    obtain ⟨k, n, c, A, l, hk, rfl, rfl, hn, hO, hL⟩ := hrel
    have hk0 : (0 : Int) ≤ (k : Int) := by omega
    have hk1 : (k : Int) ≤ 100000 := by omega
    have hx_text : ∀ (a j : Nat), ((L.bs s).drop a).take j = Sc.word ((L.bs s).drop a) → Hid (s.extract a (a + j) = strOfNums (Sc.word ((L.bs s).drop a))) := fun a j h => Lib.hid (by
      rw [← h, show ((L.bs s).drop a).take j = ((L.bs s).drop a).take (a + j - a) by rw [Nat.add_sub_cancel_left], ← Sc.bs_extract, L.str_bs])
    by_cases hkn : k < s.size
    · have c1 : (k : Int) < (s.size : Int) := by omega
      obtain ⟨ch, hch⟩ : ∃ ch, (L.bs s)[k]? = some ch := ⟨_, List.getElem?_eq_getElem (by omega)⟩
      obtain ⟨hk2, hxs⟩ := L.at_of hch
      obtain ⟨x0, x1⟩ := L.bs_rng s ch (List.mem_of_getElem? hch)
      replace hch := Lib.hid hch
      by_cases h59 : ch = 59
      · subst h59
        have hend := Lib.hid (Sc.line_stop hL.out (show (L.bs s).getD k 59 = 59 by rw [List.getD_eq_getElem?_getD, hch.out]; rfl))
        replace hO := Lib.hid hO
        go_wp2
        go_ret2
        refine ⟨_, rfl, ?_, hO.out.below⟩
        rw [hend.out]
        exact ⟨A, n, c, rfl, hO.out.row⟩
      have d59 : (ch == 59) = false := by simpa using h59
      replace hO := Lib.hid hO
      by_cases d32 : ch = 32
      · subst d32
        have hL2 := Lib.hid (Sc.line_blank hL.out hch.out (show Sc.blank 32 = true by decide))
        go_wp2
        go_roundw
        case rel => exact ⟨k + 1, n, c, A, l, by omega, by go_num, by trivial, by omega, hO.out.any _, hL2⟩
        case measure => simp [intOf]; omega
      by_cases d9 : ch = 9
      · subst d9
        have hL2 := Lib.hid (Sc.line_blank hL.out hch.out (show Sc.blank 9 = true by decide))
        go_wp2
        go_roundw
        case rel => exact ⟨k + 1, n, c, A, l, by omega, by go_num, by trivial, by omega, hO.out.any _, hL2⟩
        case measure => simp [intOf]; omega
      have hbl : Sc.blank ch = false := by
        unfold Sc.blank
        rw [decide_eq_false d32, decide_eq_false d9]; rfl
      have e32 : (ch == 32) = false := by simpa using d32
      have e9 : (ch == 9) = false := by simpa using d9
      cases hlt : Sc.letter ch with
      | true =>
        obtain ⟨h1, h2, h3⟩ := Sc.line_tok hL.out hch.out h59 hbl (Sc.one_name hch.out hlt)
        have htx := Sc.word_take ((L.bs s).drop k)
        obtain ⟨j, hj⟩ : ∃ j, j = (Sc.word ((L.bs s).drop k)).length := ⟨_, rfl⟩
        have CW := Lib.hid (fun v => Sc.rword_any (s.extract k s.size) (by rw [ByteArray.size_extract]; omega) j (by rw [Sc.bs_from]; exact hj) v)
        simp only [] at h1 h2 h3
        rw [← hj] at h1 h2 h3 htx
        have hX := hx_text k j htx
        have h4 := Lib.hid h1
        have hj0 : (0 : Int) ≤ (j : Int) := by omega
        have hsz : (s.extract k (k + j)).size = j := by rw [ByteArray.size_extract]; omega
        have hj2 : (k : Int) + (j : Int) ≤ (s.size : Int) := by omega
        have hK := Lib.hid (hO.out.two ⟨1, k, Sc.word ((L.bs s).drop k), 0⟩ (s.extract k (k + j)) (hX.out) _ rfl)
        clear h1 htx hj
        go_wp2_with (fail)
        refine (Sc.rletter_any ch _).mono ?_; rintro e w2 ⟨rfl, rfl⟩
        rw [hlt]
        go_wp2_with (fail)
        refine (CW.out _).mono ?_; rintro e w3 ⟨rfl, rfl⟩
        have hKs := hK.out.1.below.size
        go_wp2_with (first
          | (with_reducible refine append_tr (o := ⟨some 124, _, _, _, _, _⟩) Tryd.underlying22 Sc.info34b rfl (by omega) rfl (.tmp 121) (.tmp 123) rfl w0.heap.size A n c l rfl hK.out.1.row (some ⟨wr.heap.size + 1, 0, Option.none⟩) 1 1 [_] rfl hK.out.2 (by omega) hKs (Or.inr (by omega)) ?_
             intro g' cap' w5 hO5 hG5
             have hA5 := Lib.hid (hK.out.1.grown hG5 hO5)
             clear hG5 hO5)
          | fail)
        go_roundw
        case rel => exact ⟨k + j, n + 1, cap', some ⟨g', 0, Option.none⟩, l ++ [⟨1, k, Sc.word ((L.bs s).drop k), 0⟩], by omega, by go_num, by trivial, by omega, hA5.out, h4⟩
        case measure => simp [intOf]; omega
      | false =>
      cases hdg : L.digit ch with
      | true =>
        have htx := Sc.word_take ((L.bs s).drop k)
        have hwl := Sc.word_le ((L.bs s).drop k)
        have hwp := Sc.word_pos (c := ch) (r := (L.bs s).drop (k + 1)) (Sc.part_digit hdg)
        rw [← Sc.drop_at hch.out] at hwp
        rw [List.length_drop] at hwl
        obtain ⟨j, hj⟩ : ∃ j, j = (Sc.word ((L.bs s).drop k)).length := ⟨_, rfl⟩
        have CW := Lib.hid (fun v => Sc.rword_any (s.extract k s.size) (by rw [ByteArray.size_extract]; omega) j (by rw [Sc.bs_from]; exact hj) v)
        rw [← hj] at htx hwl hwp
        have hX := hx_text k j htx
        have hj0 : (0 : Int) ≤ (j : Int) := by omega
        have hj2 : (k : Int) + (j : Int) ≤ (s.size : Int) := by omega
        have hsz : (s.extract k (k + j)).size = j := by rw [ByteArray.size_extract]; omega
        have hsub : L.bs (s.extract k (k + j)) = Sc.word ((L.bs s).drop k) := by rw [Sc.bs_extract, Nat.add_sub_cancel_left, htx]
        have CN := fun v => Sc.rnumber_any (s.extract k (k + j)) (by omega) v
        rw [hsub] at CN
        cases hR : Sc.number (Sc.word ((L.bs s).drop k)) with
        | none =>
          have herr := Lib.hid (Sc.line_err hL.out hch.out h59 hbl (Sc.one_numE hch.out hlt hdg hR))
          rw [hR] at CN
          replace CN := Lib.hid CN
          clear htx hj hR hsub
          go_wp2_with (fail)
          refine (Sc.rletter_any ch _).mono ?_; rintro e w2 ⟨rfl, rfl⟩
          rw [hlt]
          go_wp2_with (fail)
          refine (Sc.rdigit_any ch _).mono ?_; rintro e w2 ⟨rfl, rfl⟩
          rw [hdg]
          go_wp2_with (fail)
          refine (CW.out _).mono ?_; rintro e w3 ⟨rfl, rfl⟩
          go_wp2_with (fail)
          refine (CN.out _).mono ?_; rintro e w3 ⟨rfl, rfl⟩
          unfold Sc.numV
          go_wp2
          go_ret2
          refine ⟨_, rfl, ?_, (hO.out.any _).below⟩
          rw [herr.out]
          exact rfl
        | some nn =>
          obtain ⟨h1, h2, h3⟩ := Sc.line_tok hL.out hch.out h59 hbl (Sc.one_num hch.out hlt hdg hR)
          simp only [] at h1 h2 h3
          rw [← hj] at h1 h2 h3
          have h4 := Lib.hid h1
          rw [hR] at CN
          replace CN := Lib.hid CN
          have hK := Lib.hid (hO.out.two ⟨2, k, Sc.word ((L.bs s).drop k), nn⟩ (s.extract k (k + j)) (hX.out) _ rfl)
          clear htx hj hR hsub h1
          go_wp2_with (fail)
          refine (Sc.rletter_any ch _).mono ?_; rintro e w2 ⟨rfl, rfl⟩
          rw [hlt]
          go_wp2_with (fail)
          refine (Sc.rdigit_any ch _).mono ?_; rintro e w2 ⟨rfl, rfl⟩
          rw [hdg]
          go_wp2_with (fail)
          refine (CW.out _).mono ?_; rintro e w3 ⟨rfl, rfl⟩
          go_wp2_with (fail)
          refine (CN.out _).mono ?_; rintro e w3 ⟨rfl, rfl⟩
          unfold Sc.numV
          have hKs := hK.out.1.below.size
          go_wp2_with (first
            | (with_reducible refine append_tr (o := ⟨some 124, _, _, _, _, _⟩) Tryd.underlying22 Sc.info34b rfl (by omega) rfl (.tmp 121) (.tmp 123) rfl w0.heap.size A n c l rfl hK.out.1.row (some ⟨wr.heap.size + 1, 0, Option.none⟩) 1 1 [_] rfl hK.out.2 (by omega) hKs (Or.inr (by omega)) ?_
               intro g' cap' w5 hO5 hG5
               have hA5 := Lib.hid (hK.out.1.grown hG5 hO5)
               clear hG5 hO5)
            | fail)
          go_roundw
          case rel => exact ⟨k + j, n + 1, cap', some ⟨g', 0, Option.none⟩, l ++ [⟨2, k, Sc.word ((L.bs s).drop k), nn⟩], by omega, by go_num, by trivial, by omega, hA5.out, h4⟩
          case measure => simp [intOf]; omega
      | false =>
      have derr : ∀ (_ : ¬ (ch = 46 ∧ Sc.letter ((L.bs s).getD (k + 1) 59) = true)) (_ : Sc.sign ch = false), Sc.line (L.bs s) = .error 20 := fun q1 q2 => Sc.line_err hL.out hch.out h59 hbl (Sc.one_noneE hch.out hlt hdg q1 q2)
      by_cases hdot : ch = 46
      · subst hdot
        by_cases hk2 : k + 1 < s.size
        · obtain ⟨x2, hx2⟩ : ∃ x2, (L.bs s)[k + 1]? = some x2 := ⟨_, List.getElem?_eq_getElem (by omega)⟩
          obtain ⟨hk3, hxs2⟩ := L.at_of hx2
          have hg : (L.bs s).getD (k + 1) 59 = x2 := by rw [List.getD_eq_getElem?_getD, hx2]; rfl
          have c2 : (k : Int) + 1 < (s.size : Int) := by omega
          cases hl2 : Sc.letter x2 with
          | true =>
            obtain ⟨h1, h2, h3⟩ := Sc.line_tok hL.out hch.out h59 hbl (Sc.one_dot hch.out hlt hdg rfl (by rw [hg]; exact hl2))
            have htx := Sc.word_take ((L.bs s).drop (k + 1))
            obtain ⟨j, hj⟩ : ∃ j, j = (Sc.word ((L.bs s).drop (k + 1))).length := ⟨_, rfl⟩
            have CW := Lib.hid (fun v => Sc.rword_any (s.extract (k + 1) s.size) (by rw [ByteArray.size_extract]; omega) j (by rw [Sc.bs_from]; exact hj) v)
            simp only [] at h1 h2 h3
            rw [← hj] at h1 h2 h3 htx
            have hX := hx_text (k + 1) j htx
            have h4 := Lib.hid h1
            have hj0 : (0 : Int) ≤ (j : Int) := by omega
            have hsz : (s.extract (k + 1) ((k + 1) + j)).size = j := by rw [ByteArray.size_extract]; omega
            have hj2 : (k : Int) + 1 + (j : Int) ≤ (s.size : Int) := by omega
            have hK := Lib.hid (hO.out.two ⟨4, k, Sc.word ((L.bs s).drop (k + 1)), 0⟩ (s.extract (k + 1) (k + 1 + j)) (hX.out) _ rfl)
            rw [show k + (1 + j) = k + 1 + j by omega] at h4
            clear h1 htx hj derr hg hx2
            go_wp2_with (fail)
            refine (Sc.rletter_any 46 _).mono ?_; rintro e w2 ⟨rfl, rfl⟩
            rw [hlt]
            go_wp2_with (fail)
            refine (Sc.rdigit_any 46 _).mono ?_; rintro e w2 ⟨rfl, rfl⟩
            rw [hdg]
            go_wp2_with (fail)
            refine (Sc.rletter_any x2 _).mono ?_; rintro e w2 ⟨rfl, rfl⟩
            rw [hl2]
            go_wp2_with (fail)
            refine (CW.out _).mono ?_; rintro e w3 ⟨rfl, rfl⟩
            have hKs := hK.out.1.below.size
            go_wp2_with (first
              | (with_reducible refine append_tr (o := ⟨some 124, _, _, _, _, _⟩) Tryd.underlying22 Sc.info34b rfl (by omega) rfl (.tmp 121) (.tmp 123) rfl w0.heap.size A n c l rfl hK.out.1.row (some ⟨wr.heap.size + 1, 0, Option.none⟩) 1 1 [_] rfl hK.out.2 (by omega) hKs (Or.inr (by omega)) ?_
                 intro g' cap' w5 hO5 hG5
                 have hA5 := Lib.hid (hK.out.1.grown hG5 hO5)
                 clear hG5 hO5)
              | fail)
            go_roundw
            case rel => exact ⟨k + 1 + j, n + 1, cap', some ⟨g', 0, Option.none⟩, l ++ [⟨4, k, Sc.word ((L.bs s).drop (k + 1)), 0⟩], by omega, by go_num, by trivial, by omega, hA5.out, h4⟩
            case measure => simp [intOf]; omega
          | false =>
            have herr := Lib.hid (derr (by rw [hg, hl2]; exact fun q => absurd q.2 (by decide)) rfl)
            clear derr hg hx2
            go_wp2_with (fail)
            refine (Sc.rletter_any 46 _).mono ?_; rintro e w2 ⟨rfl, rfl⟩
            rw [hlt]
            go_wp2_with (fail)
            refine (Sc.rdigit_any 46 _).mono ?_; rintro e w2 ⟨rfl, rfl⟩
            rw [hdg]
            go_wp2_with (fail)
            refine (Sc.rletter_any x2 _).mono ?_; rintro e w2 ⟨rfl, rfl⟩
            rw [hl2]
            go_wp2_with (fail)
            refine (Sc.rsign_any 46 _).mono ?_; rintro e w2 ⟨rfl, rfl⟩
            rw [show Sc.sign 46 = false from rfl]
            go_wp2
            go_ret2
            refine ⟨_, rfl, ?_, (hO.out.any _).below⟩
            rw [herr.out]
            exact rfl
        · have c2 : ¬ (k : Int) + 1 < (s.size : Int) := by omega
          have herr := Lib.hid (derr (by
            have hg : (L.bs s).getD (k + 1) 59 = 59 := by rw [List.getD_eq_getElem?_getD, List.getElem?_eq_none (by omega)]; rfl
            rw [hg]; exact fun q => absurd q.2 (by decide)) rfl)
          clear derr
          go_wp2_with (fail)
          refine (Sc.rletter_any 46 _).mono ?_; rintro e w2 ⟨rfl, rfl⟩
          rw [hlt]
          go_wp2_with (fail)
          refine (Sc.rdigit_any 46 _).mono ?_; rintro e w2 ⟨rfl, rfl⟩
          rw [hdg]
          go_wp2_with (fail)
          refine (Sc.rsign_any 46 _).mono ?_; rintro e w2 ⟨rfl, rfl⟩
          rw [show Sc.sign 46 = false from rfl]
          go_wp2
          go_ret2
          refine ⟨_, rfl, ?_, (hO.out.any _).below⟩
          rw [herr.out]
          exact rfl
      · have d46 : (ch == 46) = false := by simpa using hdot
        cases hsg : Sc.sign ch with
        | true =>
          obtain ⟨h1, h2, h3⟩ := Sc.line_tok hL.out hch.out h59 hbl (Sc.one_sign hch.out hlt hdg (fun q => hdot q.1) hsg)
          simp only [] at h1 h2 h3
          have h4 := Lib.hid h1
          have hX := Lib.hid (show s.extract k (k + 1) = strOfNums [ch] by
            rw [← show ((L.bs s).drop k).take (k + 1 - k) = [ch] by rw [Nat.add_sub_cancel_left, Sc.drop_at hch.out]; rfl, ← Sc.bs_extract, L.str_bs])
          have hsz : (s.extract k (k + 1)).size = 1 := by rw [ByteArray.size_extract]; omega
          have hK := Lib.hid (hO.out.two ⟨3, k, [ch], 0⟩ (s.extract k (k + 1)) (hX.out) _ rfl)
          clear derr h1
          go_wp2_with (fail)
          refine (Sc.rletter_any ch _).mono ?_; rintro e w2 ⟨rfl, rfl⟩
          rw [hlt]
          go_wp2_with (fail)
          refine (Sc.rdigit_any ch _).mono ?_; rintro e w2 ⟨rfl, rfl⟩
          rw [hdg]
          go_wp2_with (fail)
          refine (Sc.rsign_any ch _).mono ?_; rintro e w2 ⟨rfl, rfl⟩
          rw [hsg]
          have hKs := hK.out.1.below.size
          go_wp2_with (first
            | (with_reducible refine append_tr (o := ⟨some 124, _, _, _, _, _⟩) Tryd.underlying22 Sc.info34b rfl (by omega) rfl (.tmp 121) (.tmp 123) rfl w0.heap.size A n c l rfl hK.out.1.row (some ⟨wr.heap.size + 1, 0, Option.none⟩) 1 1 [_] rfl hK.out.2 (by omega) hKs (Or.inr (by omega)) ?_
               intro g' cap' w5 hO5 hG5
               have hA5 := Lib.hid (hK.out.1.grown hG5 hO5)
               clear hG5 hO5)
            | fail)
          go_roundw
          case rel => exact ⟨k + 1, n + 1, cap', some ⟨g', 0, Option.none⟩, l ++ [⟨3, k, [ch], 0⟩], by omega, by go_num, by trivial, by omega, hA5.out, h4⟩
          case measure => simp [intOf]; omega
        | false =>
          have herr := Lib.hid (derr (fun q => hdot q.1) hsg)
          clear derr
          go_wp2_with (fail)
          refine (Sc.rletter_any ch _).mono ?_; rintro e w2 ⟨rfl, rfl⟩
          rw [hlt]
          go_wp2_with (fail)
          refine (Sc.rdigit_any ch _).mono ?_; rintro e w2 ⟨rfl, rfl⟩
          rw [hdg]
          go_wp2_with (fail)
          refine (Sc.rsign_any ch _).mono ?_; rintro e w2 ⟨rfl, rfl⟩
          rw [hsg]
          go_wp2
          go_ret2
          refine ⟨_, rfl, ?_, (hO.out.any _).below⟩
          rw [herr.out]
          exact rfl
    · have c1 : (s.size : Int) ≤ (k : Int) := by omega
      have hend := Lib.hid (Sc.line_stop hL.out (show (L.bs s).getD k 59 = 59 by rw [List.getD_eq_getElem?_getD, List.getElem?_eq_none (by omega)]; rfl))
      replace hO := Lib.hid hO
      go_wp2
      go_ret2
      refine ⟨_, rfl, ?_, hO.out.below⟩
      rw [hend.out]
      exact ⟨A, n, c, rfl, hO.out.row⟩
end Go.Proofs.YtpbgniffjlcbhaaDoor
