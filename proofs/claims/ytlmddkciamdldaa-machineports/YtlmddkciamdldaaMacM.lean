/-
  What a load and a store do, step by step, plainly.
-/
import Derived.Test.YtlmddkciamdldaaQe
namespace Go.Proofs.Ytlmddkciamdldaa
open Go.RowKit
set_option linter.unusedVariables false
set_option linter.unusedSimpArgs false
set_option maxRecDepth 100000
theorem mem_may (op a b i : Int) (h0 : 0 ≤ op) (h1 : op ≤ 3) (a0 : 0 ≤ a) (a1 : a ≤ 15) (b0 : 0 ≤ b) (b1 : b ≤ 15) (i0 : -524288 ≤ i) (i1 : i ≤ 524287) : I.May ⟨5, op, a, b, 0, i, false⟩ := by
  unfold I.May
  exact ⟨⟨a0, a1, b0, b1, by simp, by simp⟩, Or.inr (Or.inr (Or.inr (Or.inl ⟨rfl, h0, h1, rfl, i0, i1, rfl⟩)))⟩
theorem mem_enc (op a b i v : Int) (hm : I.May ⟨5, op, a, b, 0, i, false⟩) (hv : I.word ⟨5, op, a, b, 0, i, false⟩ = v) (w : World) :
    Calls Try.prog 9 #[.agg #[.int .i64 5, .int .i64 op, .int .i64 a, .int .i64 b, .int .i64 0, .int .i64 i, .bool false]] w fun e w' => e = .returned (.tuple #[.int .u32 v, .int .i64 0]) ∧ Kept w w' := by
  subst hv; exact enc_to 5 op a b 0 i _ false hm rfl w
namespace X
/-- a step of an instruction of the memory -/
theorem step_mem (x : St) (op a b i : Int) (k : Nat) (h0 : x.st = 0) (hp : x.pc = 4 * k) (hk : x.ws[k]? = some (I.word ⟨5, op, a, b, 0, i, false⟩)) (hm : I.May ⟨5, op, a, b, 0, i, false⟩) :
    step x = if doT x ⟨5, op, a, b, 0, i, false⟩ = 0 ∨ doT x ⟨5, op, a, b, 0, i, false⟩ = 1 then ⟨(doX x ⟨5, op, a, b, 0, i, false⟩).ws, doS x ⟨5, op, a, b, 0, i, false⟩, beh x, doT x ⟨5, op, a, b, 0, i, false⟩, (doX x ⟨5, op, a, b, 0, i, false⟩).ins, (doX x ⟨5, op, a, b, 0, i, false⟩).outs⟩
      else ⟨(doX x ⟨5, op, a, b, 0, i, false⟩).ws, x.s, x.pc, doT x ⟨5, op, a, b, 0, i, false⟩, (doX x ⟨5, op, a, b, 0, i, false⟩).ins, (doX x ⟨5, op, a, b, 0, i, false⟩).outs⟩ := by
  have ha := at_word x.ws k _ x.pc hk hp
  rw [step_ins x _ h0 ha.1 ha.2 hm]
  have e : doP x ⟨5, op, a, b, 0, i, false⟩ = beh x := by unfold doP; rw [if_neg (by simp)]
  rw [e]
theorem wt_in (ws : List Int) (t : Int) (h4 : t % 4 = 0) (hl : t / 4 < ws.length) : M.wt ws t = 0 := by unfold M.wt M.bt; rw [if_pos h4, if_neg (by omega)]
theorem bt_in (ws : List Int) (t : Int) (hl : t / 4 < ws.length) : M.bt ws t = 0 := by unfold M.bt; rw [if_neg (by omega)]
theorem step_stw (x : St) (a b i t : Int) (k : Nat) (h0 : x.st = 0) (hp : x.pc = 4 * k) (hk : x.ws[k]? = some (I.word ⟨5, 2, a, b, 0, i, false⟩)) (hm : I.May ⟨5, 2, a, b, 0, i, false⟩)
    (ht : adr x ⟨5, 2, a, b, 0, i, false⟩ = t) (h4 : t % 4 = 0) (hl : t / 4 < x.ws.length) (h1 : t < 4294967232) : step x = ⟨x.ws.set (t / 4).toNat (x.s.r a.toNat), x.s, beh x, 0, x.ins, x.outs⟩ := by
  have hw := wt_in x.ws t h4 hl
  have eT : doT x ⟨5, 2, a, b, 0, i, false⟩ = 0 := by unfold doT swT; rw [if_pos rfl, if_neg (by simp), if_neg (by simp), if_pos rfl, ht, if_neg (by omega), if_neg (by omega), hw]
  have eS : doS x ⟨5, 2, a, b, 0, i, false⟩ = x.s := by unfold doS; rw [if_pos rfl, if_neg (by simp), if_neg (by simp)]
  have eX : doX x ⟨5, 2, a, b, 0, i, false⟩ = ⟨x.ws.set (t / 4).toNat (x.s.r a.toNat), x.s, x.pc, x.st, x.ins, x.outs⟩ := by
    unfold doX; rw [if_pos rfl, if_neg (by simp), if_neg (by simp), if_pos rfl, ht]
    unfold swW swO M.setW
    rw [if_neg (by omega), if_neg (by omega), if_pos hw, if_neg (by omega)]
  rw [step_mem x 2 a b i k h0 hp hk hm, eT, eS, eX, if_pos (Or.inl rfl)]
theorem step_ldw (x : St) (a b i t : Int) (k : Nat) (h0 : x.st = 0) (hp : x.pc = 4 * k) (hk : x.ws[k]? = some (I.word ⟨5, 0, a, b, 0, i, false⟩)) (hm : I.May ⟨5, 0, a, b, 0, i, false⟩)
    (ht : adr x ⟨5, 0, a, b, 0, i, false⟩ = t) (h4 : t % 4 = 0) (hl : t / 4 < x.ws.length) (h1 : t < 4294967232) (v : Int) (hv : M.word x.ws t = v) : step x = ⟨x.ws, A.show' (A.set x.s a.toNat v) v, beh x, 0, x.ins, x.outs⟩ := by
  have hw := wt_in x.ws t h4 hl
  have eV : ldV x t = v := by unfold ldV; rw [if_neg (by omega), hv]
  have eT : doT x ⟨5, 0, a, b, 0, i, false⟩ = 0 := by unfold doT ldT; rw [if_pos rfl, if_pos rfl, ht, if_neg (by omega), hw]
  have eS : doS x ⟨5, 0, a, b, 0, i, false⟩ = A.show' (A.set x.s a.toNat v) v := by unfold doS; rw [if_pos rfl, if_pos rfl, ht, eV]
  have eX : doX x ⟨5, 0, a, b, 0, i, false⟩ = x := by unfold doX ldI; rw [if_pos rfl, if_pos rfl, ht, if_neg (by omega)]
  rw [step_mem x 0 a b i k h0 hp hk hm, eT, eS, eX, if_pos (Or.inl rfl)]
theorem step_stb (x : St) (a b i t : Int) (k : Nat) (h0 : x.st = 0) (hp : x.pc = 4 * k) (hk : x.ws[k]? = some (I.word ⟨5, 3, a, b, 0, i, false⟩)) (hm : I.May ⟨5, 3, a, b, 0, i, false⟩)
    (ht : adr x ⟨5, 3, a, b, 0, i, false⟩ = t) (hl : t / 4 < x.ws.length) : step x = ⟨M.setB x.ws t (x.s.r a.toNat % 256), x.s, beh x, 0, x.ins, x.outs⟩ := by
  have hw := bt_in x.ws t hl
  have eT : doT x ⟨5, 3, a, b, 0, i, false⟩ = 0 := by unfold doT; rw [if_pos rfl, if_neg (by simp), if_neg (by simp), if_neg (by simp), ht, hw]
  have eS : doS x ⟨5, 3, a, b, 0, i, false⟩ = x.s := by unfold doS; rw [if_pos rfl, if_neg (by simp), if_neg (by simp)]
  have eX : doX x ⟨5, 3, a, b, 0, i, false⟩ = ⟨M.setB x.ws t (x.s.r a.toNat % 256), x.s, x.pc, x.st, x.ins, x.outs⟩ := by
    unfold doX; rw [if_pos rfl, if_neg (by simp), if_neg (by simp), if_neg (by simp), ht]
  rw [step_mem x 3 a b i k h0 hp hk hm, eT, eS, eX, if_pos (Or.inl rfl)]
theorem step_ldb (x : St) (a b i t : Int) (k : Nat) (h0 : x.st = 0) (hp : x.pc = 4 * k) (hk : x.ws[k]? = some (I.word ⟨5, 1, a, b, 0, i, false⟩)) (hm : I.May ⟨5, 1, a, b, 0, i, false⟩)
    (ht : adr x ⟨5, 1, a, b, 0, i, false⟩ = t) (hl : t / 4 < x.ws.length) (v : Int) (hv : M.byte x.ws t = v) : step x = ⟨x.ws, A.show' (A.set x.s a.toNat v) v, beh x, 0, x.ins, x.outs⟩ := by
  have hw := bt_in x.ws t hl
  have eT : doT x ⟨5, 1, a, b, 0, i, false⟩ = 0 := by unfold doT; rw [if_pos rfl, if_neg (by simp), if_pos rfl, ht, hw]
  have eS : doS x ⟨5, 1, a, b, 0, i, false⟩ = A.show' (A.set x.s a.toNat v) v := by unfold doS; rw [if_pos rfl, if_neg (by simp), if_pos rfl, ht, hv]
  have eX : doX x ⟨5, 1, a, b, 0, i, false⟩ = x := by unfold doX; rw [if_pos rfl, if_neg (by simp), if_pos rfl]
  rw [step_mem x 1 a b i k h0 hp hk hm, eT, eS, eX, if_pos (Or.inl rfl)]
/-- a word that was laid, and a byte that was laid into it -/
theorem word_set (ws : List Int) (t v : Int) (h0 : 0 ≤ t) (h4 : t % 4 = 0) (hl : t / 4 < ws.length) : M.word (ws.set (t / 4).toNat v) t = v := by
  unfold M.word
  rw [if_pos (wt_in _ t h4 (by rw [List.length_set]; exact hl)), List.getD_eq_getElem?_getD, List.getElem?_set_self (by omega)]
  rfl
theorem byte_setB (ws : List Int) (t v : Int) (h0 : 0 ≤ t) (hl : t / 4 < ws.length) (hr : ∀ y ∈ ws, 0 ≤ y ∧ y < 4294967296) (v0 : 0 ≤ v) (v1 : v < 256) : M.byte (M.setB ws t v) t = v := by
  have hj : (t / 4).toNat < ws.length := by omega
  have hy := hr _ (List.getElem_mem hj)
  unfold M.setB
  rw [if_pos (bt_in ws t hl)]
  unfold M.byte
  rw [if_pos (bt_in _ t (by rw [List.length_set]; exact hl)), List.getD_eq_getElem?_getD, List.getElem?_set_self hj, List.getD_eq_getElem?_getD, List.getElem?_eq_getElem hj]
  show M.mix ws[(t / 4).toNat] t v / 2 ^ (8 * (t % 4)).toNat % 256 = v
  have := M.mix_byte ws[(t / 4).toNat] t v (t % 4).toNat (by omega) h0 v0 v1 hy.1 hy.2
  rw [show (8 * (t % 4)).toNat = 8 * (t % 4).toNat by omega, this, if_pos (by omega)]
/-- four moves -/
theorem moves (x n t p q : Int) (ws : List Int) (S : A.Regs) (hx0 : 0 ≤ x) (hx1 : x < 4294967296) (n0 : -63 ≤ n) (n1 : n ≤ 63) (t0 : 32 ≤ t) (t1 : t ≤ 63) (hp : p = (t / 4 * 4 - n) % 4294967296) (hq : q = (t - n) % 4294967296)
    (hS : S = A.set (A.set (A.set A.none' 1 x) 2 p) 4 q) (hl : ws.length = 16) (hr : ∀ y ∈ ws, 0 ≤ y ∧ y < 4294967296)
    (h0 : ws[0]? = some (I.word ⟨5, 2, 1, 2, 0, n, false⟩)) (h1 : ws[1]? = some (I.word ⟨5, 0, 3, 2, 0, n, false⟩)) (h2 : ws[2]? = some (I.word ⟨5, 3, 1, 4, 0, n, false⟩)) (h3 : ws[3]? = some (I.word ⟨5, 1, 5, 4, 0, n, false⟩)) :
    ∃ ws1 s1 ws2 s2, go 2 ⟨ws, S, 0, 0, [], []⟩ = ⟨ws1, s1, 8, 0, [], []⟩ ∧ go 2 ⟨ws1, s1, 8, 0, [], []⟩ = ⟨ws2, s2, 16, 0, [], []⟩ ∧ s1.r 3 = x ∧ s1.n = decide (2147483648 ≤ x) ∧ s1.z = (x == 0) ∧ s2.r 5 = x % 256 ∧ s2.n = false ∧ s2.z = (x % 256 == 0) := by
  have hm : ∀ op a b, 0 ≤ op → op ≤ 3 → 0 ≤ a → a ≤ 15 → 0 ≤ b → b ≤ 15 → I.May ⟨5, op, a, b, 0, n, false⟩ := fun op a b o0 o1 a0 a1 b0 b1 => mem_may op a b n o0 o1 a0 a1 b0 b1 (by omega) (by omega)
  have r1 : S.r 1 = x := by rw [hS]; rfl
  have r2 : S.r 2 = p := by rw [hS]; rfl
  have r4 : S.r 4 = q := by rw [hS]; rfl
  clear hS
  have a1 : adr ⟨ws, S, 0, 0, [], []⟩ ⟨5, 2, 1, 2, 0, n, false⟩ = t / 4 * 4 := by
    show (S.r 2 + n % 4294967296) % 4294967296 = t / 4 * 4
    rw [r2, hp]; omega
  have e1 := step_stw ⟨ws, S, 0, 0, [], []⟩ 1 2 n (t / 4 * 4) 0 rfl rfl h0 (hm 2 1 2 (by omega) (by omega) (by omega) (by omega) (by omega) (by omega)) a1 (by omega) (by show _ < (ws.length : Int); omega) (by omega)
  have e1 : step ⟨ws, S, 0, 0, [], []⟩ = ⟨ws.set (t / 4 * 4 / 4).toNat x, S, 4, 0, [], []⟩ := by rw [e1]; show St.mk (ws.set _ (S.r 1)) _ _ _ _ _ = _; rw [r1]; rfl
  have hw : M.word (ws.set (t / 4 * 4 / 4).toNat x) (t / 4 * 4) = x := word_set ws _ x (by omega) (by omega) (by omega)
  have hl1 : (ws.set (t / 4 * 4 / 4).toNat x).length = 16 := by rw [List.length_set]; exact hl
  have hg1 : ∀ j : Nat, j < 8 → (ws.set (t / 4 * 4 / 4).toNat x)[j]? = ws[j]? := fun j hj => List.getElem?_set_ne (by omega)
  have hr1 : ∀ y ∈ ws.set (t / 4 * 4 / 4).toNat x, 0 ≤ y ∧ y < 4294967296 := fun y hy => by
    rcases List.mem_or_eq_of_mem_set hy with h | h
    · exact hr y h
    · rw [h]; exact ⟨hx0, hx1⟩
  generalize ws.set (t / 4 * 4 / 4).toNat x = ws1 at *
  have a2 : adr ⟨ws1, S, 4, 0, [], []⟩ ⟨5, 0, 3, 2, 0, n, false⟩ = t / 4 * 4 := by
    show (S.r 2 + n % 4294967296) % 4294967296 = t / 4 * 4
    rw [r2, hp]; omega
  have e2 : step ⟨ws1, S, 4, 0, [], []⟩ = ⟨ws1, A.show' (A.set S 3 x) x, 8, 0, [], []⟩ := step_ldw ⟨ws1, S, 4, 0, [], []⟩ 3 2 n (t / 4 * 4) 1 rfl rfl ((hg1 1 (by omega)).trans h1) (hm 0 3 2 (by omega) (by omega) (by omega) (by omega) (by omega) (by omega)) a2 (by omega) (by show _ < (ws1.length : Int); omega) (by omega) x hw
  have s1 : (A.show' (A.set S 3 x) x).r 1 = x := r1
  have s4 : (A.show' (A.set S 3 x) x).r 4 = q := r4
  have s3 : (A.show' (A.set S 3 x) x).r 3 = x := rfl
  have sn : (A.show' (A.set S 3 x) x).n = decide (2147483648 ≤ x) := rfl
  have sz : (A.show' (A.set S 3 x) x).z = (x == 0) := rfl
  generalize A.show' (A.set S 3 x) x = S1 at *
  have a3 : adr ⟨ws1, S1, 8, 0, [], []⟩ ⟨5, 3, 1, 4, 0, n, false⟩ = t := by
    show (S1.r 4 + n % 4294967296) % 4294967296 = t
    rw [s4, hq]; omega
  have e3 := step_stb ⟨ws1, S1, 8, 0, [], []⟩ 1 4 n t 2 rfl rfl ((hg1 2 (by omega)).trans h2) (hm 3 1 4 (by omega) (by omega) (by omega) (by omega) (by omega) (by omega)) a3 (by show _ < (ws1.length : Int); omega)
  have e3 : step ⟨ws1, S1, 8, 0, [], []⟩ = ⟨M.setB ws1 t (x % 256), S1, 12, 0, [], []⟩ := by rw [e3]; show St.mk (M.setB ws1 t (S1.r 1 % 256)) _ _ _ _ _ = _; rw [s1]; rfl
  have hb : M.byte (M.setB ws1 t (x % 256)) t = x % 256 := byte_setB ws1 t _ (by omega) (by omega) hr1 (by omega) (by omega)
  have hl2 : (M.setB ws1 t (x % 256)).length = 16 := by unfold M.setB; split <;> (try rw [List.length_set]) <;> exact hl1
  have hg2 : (M.setB ws1 t (x % 256))[3]? = ws1[3]? := by
    unfold M.setB
    split
    · exact List.getElem?_set_ne (by omega)
    · rfl
  generalize M.setB ws1 t (x % 256) = ws2 at *
  have a4 : adr ⟨ws2, S1, 12, 0, [], []⟩ ⟨5, 1, 5, 4, 0, n, false⟩ = t := by
    show (S1.r 4 + n % 4294967296) % 4294967296 = t
    rw [s4, hq]; omega
  have e4 : step ⟨ws2, S1, 12, 0, [], []⟩ = ⟨ws2, A.show' (A.set S1 5 (x % 256)) (x % 256), 16, 0, [], []⟩ := step_ldb ⟨ws2, S1, 12, 0, [], []⟩ 5 4 n t 3 rfl rfl (hg2.trans ((hg1 3 (by omega)).trans h3)) (hm 1 5 4 (by omega) (by omega) (by omega) (by omega) (by omega) (by omega)) a4 (by show _ < (ws2.length : Int); omega) (x % 256) hb
  refine ⟨ws1, S1, ws2, A.show' (A.set S1 5 (x % 256)) (x % 256), ?_, ?_, s3, sn, sz, rfl, ?_, rfl⟩
  · show step (step _) = _; rw [e1, e2]
  · show step (step _) = _; rw [e3, e4]
  · show decide (2147483648 ≤ x % 256) = false; exact decide_eq_false (by omega)
end X
end Go.Proofs.Ytlmddkciamdldaa
