/-
  scan.Line, walked.
-/
import Derived.Test.YtpbgniffjlcbhaaDoorSc5
namespace Go.Proofs.YtpbgniffjlcbhaaDoor
open Go.RowKit
set_option linter.unusedVariables false
set_option linter.unusedSimpArgs false
set_option maxRecDepth 100000
set_option maxHeartbeats 8000000 in
set_option maxRecDepth 100000 in
set_option profiler true in
set_option profiler.threshold 2000 in
theorem Sc.line_any (s : ByteArray) (hs : s.size ≤ 100000) (w0 : World) (hE : Sc.Errs w0) : Calls Tryd.prog 9 #[.string s] w0 fun e w' => ∃ v, e = .returned v ∧ Sc.LineR w0 (Sc.line (L.bs s)) v w' ∧ Below w0.heap.size w0 w' := by
  go_enter Tryd.func9, Tryd.ntmps9
  go_wp2
  refine Sc.wp_scope_labels (Sc.J w0 s) (by exact rfl) (by exact rfl) ?hf ?btw ?tok ?pass ?first
  case hf =>
    intro q m a w hJ
    match q, hJ with
    | 0, _ => exact ⟨_, rfl⟩
    | 1, _ => exact ⟨_, rfl⟩
    | 2, _ => exact ⟨_, rfl⟩
    | 3, _ => exact ⟨_, rfl⟩
    | 4, _ => exact ⟨_, rfl⟩
    | 5, _ => exact ⟨_, rfl⟩
    | q + 6, hJ =>
      have h := hJ.1
      omega
  case btw =>
    rintro m a w ⟨k, A, n, c, l, y, b, ok, hF, hm, hk, hn, hA, hL⟩
    refine hF.elim (M := fun a => Code.wp Tryd.prog _ _ a w) ?_
    clear hF
    intro u9 u10 u11 u12 u13 u14 u15 u16 u17 u18 u19 u20 u21 u22 u23 u24 u25 u26 u27 u28 u29 u30 u31 u32 u33 u34 u35 u36 u37 u38 u39 u40 u41 u42 u43 u44 u45 u46 u47 u48 u49 u50 u51 u52 u53 u54 u55 u56 u57 u58 u59 u60 u61 u62 u63 u64 u65 u66 u67 u68 u69 u70 u71 u72 u73 u74 u75 u76 u77 u78 u79 u80 u81
    have hk1 : (k : Int) ≤ 100000 := by omega
    have hk0 : (0 : Int) ≤ (k : Int) := by omega
    obtain ⟨x, hxd⟩ : ∃ x, (L.bs s).getD k 59 = x := ⟨_, rfl⟩
    have CB := Lib.hid (fun v => Sc.byteAt_any s (by omega) k (by omega) x hxd v)
    replace hA := Lib.hid hA
    by_cases h59 : x = 59
    · subst h59
      have hend := Lib.hid (Sc.line_stop hL.out hxd)
      clear hxd
      go_wp2_with (first
        | (with_reducible refine store_has (o := ⟨Option.none, Op.store 34 _ _, _, _, _, _⟩) rfl 34 _ _ rfl w0.heap.size _ rfl rfl hA.out.tok (by kernel_rfl) (by kernel_rfl) (by kernel_rfl) ?_)
        | fail)
      replace hA := Lib.hid (show Sc.At w0 l ⟨0, k, [], 0⟩ A n c (w.setRow w0.heap.size #[.int .i64 0, .int .i64 k, .string ⟨#[]⟩, .int .u32 0]) from hA.out.new ⟨0, k, [], 0⟩)
      generalize w.setRow w0.heap.size #[.int .i64 0, .int .i64 k, .string ⟨#[]⟩, .int .u32 0] = w2 at *
      go_wp2_with (fail)
      refine (CB.out _).mono ?_; rintro e w3 ⟨rfl, rfl⟩
      go_wp2
      simp only [Sc.jumps]
      go_ret2
      refine ⟨_, rfl, ?_, hA.out.below⟩
      rw [hend.out]
      exact ⟨A, n, c, rfl, hA.out.row.lower (by omega)⟩
    have d59 : (x == 59) = false := by simpa using h59
    have hx : Hid ((L.bs s)[k]? = some x) := Lib.hid (by
      rw [List.getD_eq_getElem?_getD] at hxd
      cases q : (L.bs s)[k]? with
      | none => rw [q] at hxd; exact absurd hxd.symm h59
      | some z => rw [q] at hxd; exact congrArg some hxd)
    have hkn : k < s.size := by
      have := L.bs_len s
      rcases Nat.lt_or_ge k (L.bs s).length with h1 | h1
      · omega
      · have := hx.out; rw [List.getElem?_eq_none h1] at this; cases this
    clear hxd
    obtain ⟨x0, x1⟩ := L.bs_rng s x (List.mem_of_getElem? hx.out)
    cases hbl : Sc.blank x with
    | true =>
      have hL2 := Lib.hid (Sc.line_blank hL.out hx.out hbl)
      go_wp2_with (first
        | (with_reducible refine store_has (o := ⟨Option.none, Op.store 34 _ _, _, _, _, _⟩) rfl 34 _ _ rfl w0.heap.size _ rfl rfl hA.out.tok (by kernel_rfl) (by kernel_rfl) (by kernel_rfl) ?_)
        | fail)
      replace hA := Lib.hid (show Sc.At w0 l ⟨0, k, [], 0⟩ A n c (w.setRow w0.heap.size #[.int .i64 0, .int .i64 k, .string ⟨#[]⟩, .int .u32 0]) from hA.out.new ⟨0, k, [], 0⟩)
      generalize w.setRow w0.heap.size #[.int .i64 0, .int .i64 k, .string ⟨#[]⟩, .int .u32 0] = w2 at *
      go_wp2_with (fail)
      refine (CB.out _).mono ?_; rintro e w3 ⟨rfl, rfl⟩
      go_wp2_with (fail)
      refine (Sc.isBlank_any x _).mono ?_; rintro e w3 ⟨rfl, rfl⟩
      rw [hbl]
      go_wp2
      go_step3
      refine ⟨4 * (s.size - (k + 1)) + 3, by omega, (show Sc.J w0 s 0 _ _ _ from ⟨k + 1, A, n, c, l, ⟨0, k, [], 0⟩, _, ok, ⟨_, _, _, _, _, _, _, _, _, _, _, _, _, _, _, _, _, _, _, _, _, _, _, _, _, _, _, _, _, _, _, _, _, _, _, _, _, _, _, _, _, _, _, _, _, _, _, _, _, _, _, _, _, _, _, _, _, _, _, _, _, _, _, _, _, _, _, _, _, _, _, _, _, rfl⟩, rfl, by omega, by omega, hA.out, hL2⟩)⟩
    | false =>
    cases hlt : Sc.letter x with
    | true =>
      go_wp2_with (first
        | (with_reducible refine store_has (o := ⟨Option.none, Op.store 34 _ _, _, _, _, _⟩) rfl 34 _ _ rfl w0.heap.size _ rfl rfl hA.out.tok (by kernel_rfl) (by kernel_rfl) (by kernel_rfl) ?_)
        | fail)
      replace hA := Lib.hid (show Sc.At w0 l ⟨0, k, [], 0⟩ A n c (w.setRow w0.heap.size #[.int .i64 0, .int .i64 k, .string ⟨#[]⟩, .int .u32 0]) from hA.out.new ⟨0, k, [], 0⟩)
      generalize w.setRow w0.heap.size #[.int .i64 0, .int .i64 k, .string ⟨#[]⟩, .int .u32 0] = w2 at *
      go_wp2_with (fail)
      refine (CB.out _).mono ?_; rintro e w3 ⟨rfl, rfl⟩
      go_wp2_with (fail)
      refine (Sc.isBlank_any x _).mono ?_; rintro e w3 ⟨rfl, rfl⟩
      rw [hbl]
      go_wp2_with (fail)
      refine (Sc.isNameFirst_any x _).mono ?_; rintro e w3 ⟨rfl, rfl⟩
      rw [hlt]
      go_wp2
      go_step3
      refine ⟨_, ?_, (show Sc.J w0 s 1 _ _ _ from ⟨by decide, k, A, n, c, l, x, ok, ⟨_, _, _, _, _, _, _, _, _, _, _, _, _, _, _, _, _, _, _, _, _, _, _, _, _, _, _, _, _, _, _, _, _, _, _, _, _, _, _, _, _, _, _, _, _, _, _, _, _, _, _, _, _, _, _, _, _, _, _, _, _, _, _, _, _, _, _, _, _, _, _, _, _, rfl⟩, rfl, hkn, hn, hA.out, hL, Lib.hid ⟨hx.out, h59, hbl, Or.inl ⟨rfl, hlt⟩⟩⟩)⟩
      omega
    | false =>
    cases hdg : L.digit x with
    | true =>
      go_wp2_with (first
        | (with_reducible refine store_has (o := ⟨Option.none, Op.store 34 _ _, _, _, _, _⟩) rfl 34 _ _ rfl w0.heap.size _ rfl rfl hA.out.tok (by kernel_rfl) (by kernel_rfl) (by kernel_rfl) ?_)
        | fail)
      replace hA := Lib.hid (show Sc.At w0 l ⟨0, k, [], 0⟩ A n c (w.setRow w0.heap.size #[.int .i64 0, .int .i64 k, .string ⟨#[]⟩, .int .u32 0]) from hA.out.new ⟨0, k, [], 0⟩)
      generalize w.setRow w0.heap.size #[.int .i64 0, .int .i64 k, .string ⟨#[]⟩, .int .u32 0] = w2 at *
      go_wp2_with (fail)
      refine (CB.out _).mono ?_; rintro e w3 ⟨rfl, rfl⟩
      go_wp2_with (fail)
      refine (Sc.isBlank_any x _).mono ?_; rintro e w3 ⟨rfl, rfl⟩
      rw [hbl]
      go_wp2_with (fail)
      refine (Sc.isNameFirst_any x _).mono ?_; rintro e w3 ⟨rfl, rfl⟩
      rw [hlt]
      go_wp2_with (fail)
      refine (Sc.isDigit_any x _).mono ?_; rintro e w3 ⟨rfl, rfl⟩
      rw [hdg]
      go_wp2
      go_step3
      refine ⟨_, ?_, (show Sc.J w0 s 2 _ _ _ from ⟨by decide, k, A, n, c, l, x, ok, ⟨_, _, _, _, _, _, _, _, _, _, _, _, _, _, _, _, _, _, _, _, _, _, _, _, _, _, _, _, _, _, _, _, _, _, _, _, _, _, _, _, _, _, _, _, _, _, _, _, _, _, _, _, _, _, _, _, _, _, _, _, _, _, _, _, _, _, _, _, _, _, _, _, _, rfl⟩, rfl, hkn, hn, hA.out, hL, Lib.hid ⟨hx.out, h59, hbl, Or.inr (Or.inl ⟨rfl, hlt, hdg⟩)⟩⟩)⟩
      omega
    | false =>
    obtain ⟨x2, hx2⟩ : ∃ x2, (L.bs s).getD (k + 1) 59 = x2 := ⟨_, rfl⟩
    have CN := Lib.hid (fun v => Sc.byteAt_any s (by omega) (k + 1) (by omega) x2 hx2 v)
    rw [show ((k + 1 : Nat) : Int) = (k : Int) + 1 by omega] at CN
    by_cases hdot : x = 46
    · subst hdot
      cases hl2 : Sc.letter x2 with
      | true =>
        have hcl := Lib.hid (show Sc.letter ((L.bs s).getD (k + 1) 59) = true by rw [hx2]; exact hl2)
        clear hx2
        go_wp2_with (first
          | (with_reducible refine store_has (o := ⟨Option.none, Op.store 34 _ _, _, _, _, _⟩) rfl 34 _ _ rfl w0.heap.size _ rfl rfl hA.out.tok (by kernel_rfl) (by kernel_rfl) (by kernel_rfl) ?_)
          | fail)
        replace hA := Lib.hid (show Sc.At w0 l ⟨0, k, [], 0⟩ A n c (w.setRow w0.heap.size #[.int .i64 0, .int .i64 k, .string ⟨#[]⟩, .int .u32 0]) from hA.out.new ⟨0, k, [], 0⟩)
        generalize w.setRow w0.heap.size #[.int .i64 0, .int .i64 k, .string ⟨#[]⟩, .int .u32 0] = w2 at *
        go_wp2_with (fail)
        refine (CB.out _).mono ?_; rintro e w3 ⟨rfl, rfl⟩
        go_wp2_with (fail)
        refine (Sc.isBlank_any 46 _).mono ?_; rintro e w3 ⟨rfl, rfl⟩
        rw [hbl]
        go_wp2_with (fail)
        refine (Sc.isNameFirst_any 46 _).mono ?_; rintro e w3 ⟨rfl, rfl⟩
        rw [hlt]
        go_wp2_with (fail)
        refine (Sc.isDigit_any 46 _).mono ?_; rintro e w3 ⟨rfl, rfl⟩
        rw [hdg]
        go_wp2_with (fail)
        refine (CN.out _).mono ?_; rintro e w3 ⟨rfl, rfl⟩
        go_wp2_with (fail)
        refine (Sc.isNameFirst_any x2 _).mono ?_; rintro e w3 ⟨rfl, rfl⟩
        rw [hl2]
        go_wp2
        go_step3
        refine ⟨_, ?_, (show Sc.J w0 s 3 _ _ _ from ⟨by decide, k, A, n, c, l, 46, ok, ⟨_, _, _, _, _, _, _, _, _, _, _, _, _, _, _, _, _, _, _, _, _, _, _, _, _, _, _, _, _, _, _, _, _, _, _, _, _, _, _, _, _, _, _, _, _, _, _, _, _, _, _, _, _, _, _, _, _, _, _, _, _, _, _, _, _, _, _, _, _, _, _, _, _, rfl⟩, rfl, hkn, hn, hA.out, hL, Lib.hid ⟨hx.out, h59, hbl, Or.inr (Or.inr (Or.inl ⟨rfl, hlt, hdg, rfl, hcl.out⟩))⟩⟩)⟩
        omega
      | false =>
        have hsg : Sc.sign 46 = false := rfl
        have herr := Lib.hid (Sc.line_err hL.out hx.out h59 hbl (Sc.one_noneE hx.out hlt hdg (fun q => by rw [hx2, hl2] at q; exact absurd q.2 (by decide)) hsg))
        clear hx2
        go_wp2_with (first
          | (with_reducible refine store_has (o := ⟨Option.none, Op.store 34 _ _, _, _, _, _⟩) rfl 34 _ _ rfl w0.heap.size _ rfl rfl hA.out.tok (by kernel_rfl) (by kernel_rfl) (by kernel_rfl) ?_)
          | fail)
        replace hA := Lib.hid (show Sc.At w0 l ⟨0, k, [], 0⟩ A n c (w.setRow w0.heap.size #[.int .i64 0, .int .i64 k, .string ⟨#[]⟩, .int .u32 0]) from hA.out.new ⟨0, k, [], 0⟩)
        generalize w.setRow w0.heap.size #[.int .i64 0, .int .i64 k, .string ⟨#[]⟩, .int .u32 0] = w2 at *
        go_wp2_with (fail)
        refine (CB.out _).mono ?_; rintro e w3 ⟨rfl, rfl⟩
        go_wp2_with (fail)
        refine (Sc.isBlank_any 46 _).mono ?_; rintro e w3 ⟨rfl, rfl⟩
        rw [hbl]
        go_wp2_with (fail)
        refine (Sc.isNameFirst_any 46 _).mono ?_; rintro e w3 ⟨rfl, rfl⟩
        rw [hlt]
        go_wp2_with (fail)
        refine (Sc.isDigit_any 46 _).mono ?_; rintro e w3 ⟨rfl, rfl⟩
        rw [hdg]
        go_wp2_with (fail)
        refine (CN.out _).mono ?_; rintro e w3 ⟨rfl, rfl⟩
        go_wp2_with (fail)
        refine (Sc.isNameFirst_any x2 _).mono ?_; rintro e w3 ⟨rfl, rfl⟩
        rw [hl2]
        go_wp2_with (fail)
        refine (Sc.isSign_any 46 x0 x1 _).mono ?_; rintro e w3 ⟨rfl, rfl⟩
        rw [hsg]
        go_wp2
        simp only [Sc.jumps]
        go_ret2
        refine ⟨_, rfl, ?_, hA.out.below⟩
        rw [herr.out]
        exact rfl
    · have d46 : (x == 46) = false := by simpa using hdot
      clear hx2 CN
      cases hsg : Sc.sign x with
      | true =>
        go_wp2_with (first
          | (with_reducible refine store_has (o := ⟨Option.none, Op.store 34 _ _, _, _, _, _⟩) rfl 34 _ _ rfl w0.heap.size _ rfl rfl hA.out.tok (by kernel_rfl) (by kernel_rfl) (by kernel_rfl) ?_)
          | fail)
        replace hA := Lib.hid (show Sc.At w0 l ⟨0, k, [], 0⟩ A n c (w.setRow w0.heap.size #[.int .i64 0, .int .i64 k, .string ⟨#[]⟩, .int .u32 0]) from hA.out.new ⟨0, k, [], 0⟩)
        generalize w.setRow w0.heap.size #[.int .i64 0, .int .i64 k, .string ⟨#[]⟩, .int .u32 0] = w2 at *
        go_wp2_with (fail)
        refine (CB.out _).mono ?_; rintro e w3 ⟨rfl, rfl⟩
        go_wp2_with (fail)
        refine (Sc.isBlank_any x _).mono ?_; rintro e w3 ⟨rfl, rfl⟩
        rw [hbl]
        go_wp2_with (fail)
        refine (Sc.isNameFirst_any x _).mono ?_; rintro e w3 ⟨rfl, rfl⟩
        rw [hlt]
        go_wp2_with (fail)
        refine (Sc.isDigit_any x _).mono ?_; rintro e w3 ⟨rfl, rfl⟩
        rw [hdg]
        go_wp2_with (fail)
        refine (Sc.isSign_any x x0 x1 _).mono ?_; rintro e w3 ⟨rfl, rfl⟩
        rw [hsg]
        go_wp2
        go_step3
        refine ⟨_, ?_, (show Sc.J w0 s 4 _ _ _ from ⟨by decide, k, A, n, c, l, x, ok, ⟨_, _, _, _, _, _, _, _, _, _, _, _, _, _, _, _, _, _, _, _, _, _, _, _, _, _, _, _, _, _, _, _, _, _, _, _, _, _, _, _, _, _, _, _, _, _, _, _, _, _, _, _, _, _, _, _, _, _, _, _, _, _, _, _, _, _, _, _, _, _, _, _, _, rfl⟩, rfl, hkn, hn, hA.out, hL, Lib.hid ⟨hx.out, h59, hbl, Or.inr (Or.inr (Or.inr ⟨rfl, hlt, hdg, fun q => hdot q.1, hsg⟩))⟩⟩)⟩
        omega
      | false =>
        have herr := Lib.hid (Sc.line_err hL.out hx.out h59 hbl (Sc.one_noneE hx.out hlt hdg (fun q => hdot q.1) hsg))
        go_wp2_with (first
          | (with_reducible refine store_has (o := ⟨Option.none, Op.store 34 _ _, _, _, _, _⟩) rfl 34 _ _ rfl w0.heap.size _ rfl rfl hA.out.tok (by kernel_rfl) (by kernel_rfl) (by kernel_rfl) ?_)
          | fail)
        replace hA := Lib.hid (show Sc.At w0 l ⟨0, k, [], 0⟩ A n c (w.setRow w0.heap.size #[.int .i64 0, .int .i64 k, .string ⟨#[]⟩, .int .u32 0]) from hA.out.new ⟨0, k, [], 0⟩)
        generalize w.setRow w0.heap.size #[.int .i64 0, .int .i64 k, .string ⟨#[]⟩, .int .u32 0] = w2 at *
        go_wp2_with (fail)
        refine (CB.out _).mono ?_; rintro e w3 ⟨rfl, rfl⟩
        go_wp2_with (fail)
        refine (Sc.isBlank_any x _).mono ?_; rintro e w3 ⟨rfl, rfl⟩
        rw [hbl]
        go_wp2_with (fail)
        refine (Sc.isNameFirst_any x _).mono ?_; rintro e w3 ⟨rfl, rfl⟩
        rw [hlt]
        go_wp2_with (fail)
        refine (Sc.isDigit_any x _).mono ?_; rintro e w3 ⟨rfl, rfl⟩
        rw [hdg]
        go_wp2_with (fail)
        refine (Sc.isSign_any x x0 x1 _).mono ?_; rintro e w3 ⟨rfl, rfl⟩
        rw [hsg]
        go_wp2
        simp only [Sc.jumps]
        go_ret2
        refine ⟨_, rfl, ?_, hA.out.below⟩
        rw [herr.out]
        exact rfl
  case tok =>
    rintro m a w ⟨e, b, A, n, c, l, y, ok, hF, hm, he, hb, hn, hA, hL⟩
    refine hF.elim (M := fun a => Code.wp Tryd.prog _ _ a w) ?_
    clear hF
    intro u9 u10 u11 u12 u13 u14 u15 u16 u17 u18 u19 u20 u21 u22 u23 u24 u25 u26 u27 u28 u29 u30 u31 u32 u33 u34 u35 u36 u37 u38 u39 u40 u41 u42 u43 u44 u45 u46 u47 u48 u49 u50 u51 u52 u53 u54 u55 u56 u57 u58 u59 u60 u61 u62 u63 u64 u65 u66 u67 u68 u69 u70 u71 u72 u73 u74 u75 u76 u77 u78 u79 u80 u81
    have hb1 : (b : Int) ≤ (e : Int) := by omega
    have he1 : (e : Int) ≤ (s.size : Int) := by omega
    have hs1 : (s.size : Int) ≤ 100000 := by omega
    have hb0 : (0 : Int) ≤ (b : Int) := by omega
    have hsz : (s.extract b e).size = e - b := by
      rw [ByteArray.size_extract]; omega
    have CC := Lib.hid (Sc.clone_any (s.extract b e) w (by omega))
    have hX := Lib.hid (show s.extract b e = strOfNums (((L.bs s).drop b).take (e - b)) by rw [← Sc.bs_extract, L.str_bs])
    replace hA := Lib.hid hA
    go_wp2_with (fail)
    refine CC.out.mono ?_; rintro e' w2 ⟨rfl, hB⟩
    have hA2 := hA.out.step hB
    clear hB hA CC
    have c2 := hA2.tok.cell 2 _ rfl
    have f2 := hA2.free 2
    have hA3 := Lib.hid (hA2.put 2 (.string (s.extract b e)) { y with t := ((L.bs s).drop b).take (e - b) } (by rw [hX.out]; rfl))
    replace hA2 := Lib.hid hA2
    generalize hy : ({ y with t := ((L.bs s).drop b).take (e - b) } : Sc.Tk) = z at *
    have hTz := Lib.hid (show Has w0.heap.size #[.int .i64 z.k, .int .i64 z.p, .string (strOfNums z.t), .int .u32 z.n] 34 _ from hA3.out.tok)
    go_wp2_with (first
      | (generalize w2.setCell ⟨w0.heap.size, 2, Option.none⟩ (.string (s.extract b e)) = w3 at *
         with_reducible refine load_has (o := ⟨some 79, _, _, _, _, _⟩) rfl 34 (.tmp 5) rfl w0.heap.size rfl hTz.out Tryd.underlying34 rfl (by kernel_rfl) ?_
         have hB4 := ((Kept.refl w3).alloc #[.int .i64 z.k, .int .i64 z.p, .string (strOfNums z.t), .int .u32 z.n] 34).below
         have hA4 := Lib.hid (hA3.out.step hB4)
         have hO4 := Lib.hid hA4.out.row
         have hY := Lib.hid (show Tr (w3.alloc (.cells #[.int .i64 z.k, .int .i64 z.p, .string (strOfNums z.t), .int .u32 z.n] 34)) (some ⟨w3.heap.size, 0, Option.none⟩) 1 1 [z] from Tr.one (y := z) (Has.new (Sc.cs z).toArray 34 w3))
         have hs4 := Lib.hid (show w0.heap.size + 1 ≤ (w3.alloc (.cells #[.int .i64 z.k, .int .i64 z.p, .string (strOfNums z.t), .int .u32 z.n] 34)).heap.size from hA4.out.tok.lt)
         clear hB4)
      | (with_reducible refine append_tr (o := ⟨some 81, _, _, _, _, _⟩) Tryd.underlying22 Sc.info34b rfl (by omega) rfl (.tmp 78) (.tmp 80) rfl (w0.heap.size + 1) A n c l rfl hO4.out (some ⟨w3.heap.size, 0, Option.none⟩) 1 1 [z] rfl hY.out (by omega) hs4.out (Or.inr (by omega)) ?_
         intro g' cap' w5 hO5 hG5
         have hA5 := Lib.hid (hA4.out.grown hG5 hO5)
         clear hG5 hO5)
      | fail)
    go_step3
    refine ⟨_, ?_, (show Sc.J w0 s 0 _ _ _ from ⟨e, some ⟨g', 0, Option.none⟩, n + 1, cap', l ++ [z], z, _, ok, ⟨_, _, _, _, _, _, _, _, _, _, _, _, _, _, _, _, _, _, _, _, _, _, _, _, _, _, _, _, _, _, _, _, _, _, _, _, _, _, _, _, _, _, _, _, _, _, _, _, _, _, _, _, _, _, _, _, _, _, _, _, _, _, _, _, _, _, _, _, _, _, _, _, _, rfl⟩, rfl, by omega, by omega, hA5.out, hL⟩)⟩
    omega
  case pass =>
    intro H5 q m a w r hq h5 hJ hr
    match q, hq, hJ, hr with
    | 1, _, hJ, hr =>
      obtain ⟨_, k, A, n, c, l, ch, ok, hF, hm, hk, hn, hA, hL, hc⟩ := hJ
      injection hr with hr
      subst hr
      refine hF.elim (M := fun a => Code.wp Tryd.prog _ _ a w) ?_
      clear hF
      intro u9 u10 u11 u12 u13 u14 u15 u16 u17 u18 u19 u20 u21 u22 u23 u24 u25 u26 u27 u28 u29 u30 u31 u32 u33 u34 u35 u36 u37 u38 u39 u40 u41 u42 u43 u44 u45 u46 u47 u48 u49 u50 u51 u52 u53 u54 u55 u56 u57 u58 u59 u60 u61 u62 u63 u64 u65 u66 u67 u68 u69 u70 u71 u72 u73 u74 u75 u76 u77 u78 u79 u80 u81
      obtain ⟨hch, h59, hbl, hcl⟩ := hc.out
      clear hc
      have hls := L.bs_len s
      have hk1 : (k : Int) ≤ 100000 := by omega
      have hk0 : (0 : Int) ≤ (k : Int) := by omega
      have hT := Lib.hid hA.tok
      have fr := fun j => hA.free j
      have hlt : Sc.letter ch = true := by
        rcases hcl with h | h | h | h
        · exact h.2
        all_goals exact absurd h.1 (by decide)
      obtain ⟨h1, h2, h3⟩ := Sc.line_tok hL.out hch h59 hbl (Sc.one_name hch hlt)
      have htx := Sc.word_take ((L.bs s).drop k)
      have CB := Sc.behind_any s (by omega) k (by omega) w
      simp only [] at h1 h2 h3
      generalize (Sc.word ((L.bs s).drop k)).length = j at *
      have hA2 := Lib.hid (hA.put 0 (.int .i64 1) ⟨1, k, [], 0⟩ rfl)
      have h4 := Lib.hid h1
      have h5 := Lib.hid htx
      have c0 := hA.tok.cell 0 _ rfl
      have f0 := fr 0
      replace hA := Lib.hid hA
      replace CB := Lib.hid CB
      clear h1 htx fr hT hL hcl hlt
      have e5 : ((k + j : Nat) : Int) = (k : Int) + (j : Int) := by omega
      go_wp2_with (fail)
      refine CB.out.mono ?_; rintro e w3 ⟨rfl, rfl⟩
      go_wp2
      go_step3
      refine ⟨_, ?_, (show Sc.J w0 s 5 _ _ _ from ⟨k + j, k, A, n, c, l, ⟨1, k, [], 0⟩, ok, ⟨_, _, _, _, _, _, _, _, _, _, _, _, _, _, _, _, _, _, _, _, _, _, _, _, _, _, _, _, _, _, _, _, _, _, _, _, _, _, _, _, _, _, _, _, _, _, _, _, _, _, _, _, _, _, _, _, _, _, _, _, _, _, _, _, _, _, _, _, _, _, _, _, _, rfl⟩, rfl, by omega, by omega, by omega, hA2.out, Lib.hid (by rw [Nat.add_sub_cancel_left, h5.out]; exact h4.out)⟩)⟩
      omega
    | 2, _, hJ, hr =>
      obtain ⟨_, k, A, n, c, l, ch, ok, hF, hm, hk, hn, hA, hL, hc⟩ := hJ
      injection hr with hr
      subst hr
      refine hF.elim (M := fun a => Code.wp Tryd.prog _ _ a w) ?_
      clear hF
      intro u9 u10 u11 u12 u13 u14 u15 u16 u17 u18 u19 u20 u21 u22 u23 u24 u25 u26 u27 u28 u29 u30 u31 u32 u33 u34 u35 u36 u37 u38 u39 u40 u41 u42 u43 u44 u45 u46 u47 u48 u49 u50 u51 u52 u53 u54 u55 u56 u57 u58 u59 u60 u61 u62 u63 u64 u65 u66 u67 u68 u69 u70 u71 u72 u73 u74 u75 u76 u77 u78 u79 u80 u81
      obtain ⟨hch, h59, hbl, hcl⟩ := hc.out
      clear hc
      have hls := L.bs_len s
      have hk1 : (k : Int) ≤ 100000 := by omega
      have hk0 : (0 : Int) ≤ (k : Int) := by omega
      have hT := Lib.hid hA.tok
      have fr := fun j => hA.free j
      have hlt : Sc.letter ch = false ∧ L.digit ch = true := by
        rcases hcl with h | h | h | h
        · exact absurd h.1 (by decide)
        · exact h.2
        all_goals exact absurd h.1 (by decide)
      have htx := Sc.word_take ((L.bs s).drop k)
      have CB := Sc.behind_any s (by omega) k (by omega) w
      have hwp := Sc.word_pos (c := ch) (r := (L.bs s).drop (k + 1)) (Sc.part_digit hlt.2)
      rw [← Sc.drop_at hch] at hwp
      have hwl := Sc.word_le ((L.bs s).drop k)
      rw [List.length_drop] at hwl
      have hA2 := Lib.hid (hA.put 0 (.int .i64 2) ⟨2, k, [], 0⟩ rfl)
      have c0 := hA.tok.cell 0 _ rfl
      have f0 := fr 0
      have hR : ∀ R, Sc.number (Sc.word ((L.bs s).drop k)) = R → Hid (Sc.number (Sc.word ((L.bs s).drop k)) = R) := fun R h => Lib.hid h
      obtain ⟨R, hR⟩ : ∃ R, Sc.number (Sc.word ((L.bs s).drop k)) = R := ⟨_, rfl⟩
      have hcase : (∃ nn, R = some nn ∧ Hid (Sc.line (L.bs s) = Sc.pre (l ++ [⟨2, k, ((L.bs s).drop k).take (Sc.word ((L.bs s).drop k)).length, nn⟩]) (Sc.run ((L.bs s).drop (k + (Sc.word ((L.bs s).drop k)).length)) ((k + (Sc.word ((L.bs s).drop k)).length : Nat) : Int)))) ∨ (R = Option.none ∧ Hid (Sc.line (L.bs s) = .error 21)) := by
        cases R with
        | some nn => exact Or.inl ⟨nn, rfl, Lib.hid (by rw [htx]; exact (Sc.line_tok hL.out hch h59 hbl (Sc.one_num hch hlt.1 hlt.2 hR)).1)⟩
        | none => exact Or.inr ⟨rfl, Lib.hid (Sc.line_err hL.out hch h59 hbl (Sc.one_numE hch hlt.1 hlt.2 hR))⟩
      have hsub : Sc.number (L.bs (s.extract k (k + (Sc.word ((L.bs s).drop k)).length))) = R := by
        rw [Sc.bs_extract, Nat.add_sub_cancel_left, htx]; exact hR
      generalize (Sc.word ((L.bs s).drop k)).length = j at *
      have hsz : (s.extract k (k + j)).size = j := by
        rw [ByteArray.size_extract]; omega
      have hE1 : Sc.Errs (w.setCell ⟨w0.heap.size, 0, Option.none⟩ (.int .i64 2)) := hE.below hA2.out.below
      have CN := Sc.numberOf_any (s.extract k (k + j)) (by omega) (by omega) _ hE1
      rw [hsub] at CN
      have e5 : ((k + j : Nat) : Int) = (k : Int) + (j : Int) := by omega
      have hj2 : (k : Int) + (j : Int) ≤ (s.size : Int) := by omega
      have hj0 : (0 : Int) ≤ (j : Int) := by omega
      have hj3 : k + j ≤ s.size := by omega
      replace hA := Lib.hid hA
      replace CB := Lib.hid CB
      clear htx fr hT hL hcl hlt hsub hE1 hwl hR
      rcases hcase with ⟨nn, rfl, h4⟩ | ⟨rfl, h4⟩
      · have CN2 := Lib.hid (show Calls Tryd.prog 23 #[.string (s.extract k (k + j))] (w.setCell ⟨w0.heap.size, 0, Option.none⟩ (.int .i64 2)) _ from CN)
        clear CN
        go_wp2_with (fail)
        refine CB.out.mono ?_; rintro e w3 ⟨rfl, rfl⟩
        go_wp2_with (fail)
        refine CN2.out.mono ?_; rintro e w3 ⟨rfl, hB⟩
        have hA3 := hA2.out.step hB
        have c3 := hA3.tok.cell 3 _ rfl
        have f3 := hA3.free 3
        have hA4 := Lib.hid (hA3.put 3 (.int .u32 nn) ⟨2, k, [], nn⟩ rfl)
        clear hB hA3 hA2 hA c0 f0
        unfold Sc.numV
        go_wp2
        go_step3
        refine ⟨_, ?_, (show Sc.J w0 s 5 _ _ _ from ⟨k + j, k, A, n, c, l, ⟨2, k, [], nn⟩, _, ⟨_, _, _, _, _, _, _, _, _, _, _, _, _, _, _, _, _, _, _, _, _, _, _, _, _, _, _, _, _, _, _, _, _, _, _, _, _, _, _, _, _, _, _, _, _, _, _, _, _, _, _, _, _, _, _, _, _, _, _, _, _, _, _, _, _, _, _, _, _, _, _, _, _, rfl⟩, rfl, by omega, by omega, by omega, hA4.out, Lib.hid (by rw [Nat.add_sub_cancel_left]; exact h4.out)⟩)⟩
        omega
      · have CN2 := Lib.hid (show Calls Tryd.prog 23 #[.string (s.extract k (k + j))] (w.setCell ⟨w0.heap.size, 0, Option.none⟩ (.int .i64 2)) _ from CN)
        clear CN
        go_wp2_with (fail)
        refine CB.out.mono ?_; rintro e w3 ⟨rfl, rfl⟩
        go_wp2_with (fail)
        refine CN2.out.mono ?_; rintro e w3 ⟨rfl, hB⟩
        have hA3 := hA2.out.step hB
        have c3 := hA3.tok.cell 3 _ rfl
        have f3 := hA3.free 3
        have hA4 := Lib.hid (hA3.put 3 (.int .u32 0) ⟨2, k, [], 0⟩ rfl)
        clear hB hA3 hA2 hA c0 f0
        unfold Sc.numV
        go_wp2
        simp only [Sc.jumps]
        go_ret2
        refine ⟨_, rfl, ?_, hA4.out.below⟩
        rw [h4.out]
        exact rfl
    | 3, _, hJ, hr =>
      obtain ⟨_, k, A, n, c, l, ch, ok, hF, hm, hk, hn, hA, hL, hc⟩ := hJ
      injection hr with hr
      subst hr
      refine hF.elim (M := fun a => Code.wp Tryd.prog _ _ a w) ?_
      clear hF
      intro u9 u10 u11 u12 u13 u14 u15 u16 u17 u18 u19 u20 u21 u22 u23 u24 u25 u26 u27 u28 u29 u30 u31 u32 u33 u34 u35 u36 u37 u38 u39 u40 u41 u42 u43 u44 u45 u46 u47 u48 u49 u50 u51 u52 u53 u54 u55 u56 u57 u58 u59 u60 u61 u62 u63 u64 u65 u66 u67 u68 u69 u70 u71 u72 u73 u74 u75 u76 u77 u78 u79 u80 u81
      obtain ⟨hch, h59, hbl, hcl⟩ := hc.out
      clear hc
      have hls := L.bs_len s
      have hk1 : (k : Int) ≤ 100000 := by omega
      have hk0 : (0 : Int) ≤ (k : Int) := by omega
      have hT := Lib.hid hA.tok
      have fr := fun j => hA.free j
      have hlt : Sc.letter ch = false ∧ L.digit ch = false ∧ ch = 46 ∧ Sc.letter ((L.bs s).getD (k + 1) 59) = true := by
        rcases hcl with h | h | h | h
        · exact absurd h.1 (by decide)
        · exact absurd h.1 (by decide)
        · exact h.2
        · exact absurd h.1 (by decide)
      obtain ⟨h1, h2, h3⟩ := Sc.line_tok hL.out hch h59 hbl (Sc.one_dot hch hlt.1 hlt.2.1 hlt.2.2.1 hlt.2.2.2)
      have htx := Sc.word_take ((L.bs s).drop (k + 1))
      have CB := Sc.behind_any s (by omega) (k + 1) (by omega) w
      simp only [] at h1 h2 h3
      generalize (Sc.word ((L.bs s).drop (k + 1))).length = j at *
      have hA2 := Lib.hid (hA.put 0 (.int .i64 4) ⟨4, k, [], 0⟩ rfl)
      rw [show k + (1 + j) = k + 1 + j by omega] at h1
      have h4 := Lib.hid h1
      have h5 := Lib.hid htx
      have c0 := hA.tok.cell 0 _ rfl
      have f0 := fr 0
      have e1 : ((k + 1 : Nat) : Int) = (k : Int) + 1 := by omega
      rw [e1] at CB
      replace hA := Lib.hid hA
      replace CB := Lib.hid CB
      clear h1 htx fr hT hL hcl hlt h59 hbl
      have e5 : ((k + 1 + j : Nat) : Int) = (k : Int) + 1 + (j : Int) := by omega
      go_wp2_with (fail)
      refine CB.out.mono ?_; rintro e w3 ⟨rfl, rfl⟩
      go_wp2
      go_step3
      refine ⟨_, ?_, (show Sc.J w0 s 5 _ _ _ from ⟨k + 1 + j, k + 1, A, n, c, l, ⟨4, k, [], 0⟩, ok, ⟨_, _, _, _, _, _, _, _, _, _, _, _, _, _, _, _, _, _, _, _, _, _, _, _, _, _, _, _, _, _, _, _, _, _, _, _, _, _, _, _, _, _, _, _, _, _, _, _, _, _, _, _, _, _, _, _, _, _, _, _, _, _, _, _, _, _, _, _, _, _, _, _, _, rfl⟩, rfl, by omega, by omega, by omega, hA2.out, Lib.hid (by rw [Nat.add_sub_cancel_left, h5.out]; exact h4.out)⟩)⟩
      omega
    | 4, _, hJ, hr =>
      obtain ⟨_, k, A, n, c, l, ch, ok, hF, hm, hk, hn, hA, hL, hc⟩ := hJ
      injection hr with hr
      subst hr
      refine hF.elim (M := fun a => Code.wp Tryd.prog _ _ a w) ?_
      clear hF
      intro u9 u10 u11 u12 u13 u14 u15 u16 u17 u18 u19 u20 u21 u22 u23 u24 u25 u26 u27 u28 u29 u30 u31 u32 u33 u34 u35 u36 u37 u38 u39 u40 u41 u42 u43 u44 u45 u46 u47 u48 u49 u50 u51 u52 u53 u54 u55 u56 u57 u58 u59 u60 u61 u62 u63 u64 u65 u66 u67 u68 u69 u70 u71 u72 u73 u74 u75 u76 u77 u78 u79 u80 u81
      obtain ⟨hch, h59, hbl, hcl⟩ := hc.out
      clear hc
      have hls := L.bs_len s
      have hk1 : (k : Int) ≤ 100000 := by omega
      have hk0 : (0 : Int) ≤ (k : Int) := by omega
      have hT := Lib.hid hA.tok
      have fr := fun j => hA.free j
      have hlt : Sc.letter ch = false ∧ L.digit ch = false ∧ ¬ (ch = 46 ∧ Sc.letter ((L.bs s).getD (k + 1) 59) = true) ∧ Sc.sign ch = true := by
        rcases hcl with h | h | h | h
        · exact absurd h.1 (by decide)
        · exact absurd h.1 (by decide)
        · exact absurd h.1 (by decide)
        · exact h.2
      obtain ⟨h1, h2, h3⟩ := Sc.line_tok hL.out hch h59 hbl (Sc.one_sign hch hlt.1 hlt.2.1 hlt.2.2.1 hlt.2.2.2)
      simp only [] at h1 h2 h3
      have htx : ((L.bs s).drop k).take 1 = [ch] := by rw [Sc.drop_at hch]; rfl
      have hA2 := Lib.hid (hA.put 0 (.int .i64 3) ⟨3, k, [], 0⟩ rfl)
      have h4 := Lib.hid h1
      have h5 := Lib.hid htx
      have c0 := hA.tok.cell 0 _ rfl
      have f0 := fr 0
      replace hA := Lib.hid hA
      clear h1 htx fr hT hL hcl hlt h59 hbl
      go_wp2
      go_step3
      rename_i hK
      refine hK _ _ ?_
      clear hK
      refine H5 (4 * (s.size - (k + 1)) + 4) _ _ _ ?_ (show Sc.J w0 s 5 _ _ _ from ⟨k + 1, k, A, n, c, l, ⟨3, k, [], 0⟩, ok, ⟨_, _, _, _, _, _, _, _, _, _, _, _, _, _, _, _, _, _, _, _, _, _, _, _, _, _, _, _, _, _, _, _, _, _, _, _, _, _, _, _, _, _, _, _, _, _, _, _, _, _, _, _, _, _, _, _, _, _, _, _, _, _, _, _, _, _, _, _, _, _, _, _, _, rfl⟩, rfl, by omega, by omega, by omega, hA2.out, Lib.hid (by rw [Nat.add_sub_cancel_left, h5.out]; exact h4.out)⟩)
      omega
    | 5, _, _, _ => exact absurd rfl h5
    | q + 6, _, hJ, _ =>
      have h := hJ.1
      omega
  case first =>
    intro H
    go_wp2
    go_step3
    rename_i hK
    refine hK _ _ ?_
    clear hK
    exact H (4 * s.size + 3) _ _ (show Sc.J w0 s 0 _ _ _ from ⟨0, Option.none, 0, 0, [], Sc.none, _, _, ⟨_, _, _, _, _, _, _, _, _, _, _, _, _, _, _, _, _, _, _, _, _, _, _, _, _, _, _, _, _, _, _, _, _, _, _, _, _, _, _, _, _, _, _, _, _, _, _, _, _, _, _, _, _, _, _, _, _, _, _, _, _, _, _, _, _, _, _, _, _, _, _, _, _, rfl⟩, rfl, by omega, by omega, ⟨(Below.refl _ w0).alloc (Nat.le_refl _) _, Has.new _ _ _, Oz.none _ _ _⟩, Lib.hid (by
      unfold Sc.line
      rw [Sc.pre_nil, List.drop_zero]
      rfl)⟩)
end Go.Proofs.YtpbgniffjlcbhaaDoor
