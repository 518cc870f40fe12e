/-
  What the ports do, plainly.
-/
import Derived.Test.YtlmddkciamdldaaMacM
namespace Go.Proofs.Ytlmddkciamdldaa
open Go.RowKit
set_option linter.unusedVariables false
set_option linter.unusedSimpArgs false
set_option maxRecDepth 100000
theorem jmp_may : I.May ⟨7, 7, 0, 0, 0, -3, false⟩ := by unfold I.May; simp
namespace X
theorem adr0 (x : St) (op a i : Int) (h : x.s.r 0 = 0) : adr x ⟨5, op, a, 0, 0, i, false⟩ = i % 4294967296 := by
  show (x.s.r 0 + i % 4294967296) % 4294967296 = _
  rw [h]; omega
theorem step_in (ws : List Int) (s : A.Regs) (ins outs : List Int) (h0 : s.r 0 = 0) (hk : ws[0]? = some (I.word ⟨5, 0, 1, 0, 0, -64, false⟩)) :
    step ⟨ws, s, 0, 0, ins, outs⟩ = ⟨ws, A.show' (A.set s 1 (ins.headD 0)) (ins.headD 0), 4, 0, ins.tail, outs⟩ := by
  have hm := mem_may 0 1 0 (-64) (by omega) (by omega) (by omega) (by omega) (by omega) (by omega) (by omega) (by omega)
  have ha : adr ⟨ws, s, 0, 0, ins, outs⟩ ⟨5, 0, 1, 0, 0, -64, false⟩ = 4294967232 := adr0 _ 0 1 (-64) h0
  have eV : ldV ⟨ws, s, 0, 0, ins, outs⟩ 4294967232 = ins.headD 0 := by unfold ldV; rw [if_pos rfl]
  have eT : doT ⟨ws, s, 0, 0, ins, outs⟩ ⟨5, 0, 1, 0, 0, -64, false⟩ = 0 := by unfold doT ldT; rw [if_pos rfl, if_pos rfl, ha, if_pos rfl]
  have eS : doS ⟨ws, s, 0, 0, ins, outs⟩ ⟨5, 0, 1, 0, 0, -64, false⟩ = A.show' (A.set s 1 (ins.headD 0)) (ins.headD 0) := by unfold doS; rw [if_pos rfl, if_pos rfl, ha, eV]; rfl
  have eX : doX ⟨ws, s, 0, 0, ins, outs⟩ ⟨5, 0, 1, 0, 0, -64, false⟩ = ⟨ws, s, 0, 0, ins.tail, outs⟩ := by unfold doX ldI; rw [if_pos rfl, if_pos rfl, ha, if_pos rfl]
  rw [step_mem _ 0 1 0 (-64) 0 rfl rfl hk hm, eT, eS, eX, if_pos (Or.inl rfl)]
  rfl
theorem step_out (ws : List Int) (s : A.Regs) (ins outs : List Int) (h0 : s.r 0 = 0) (hk : ws[1]? = some (I.word ⟨5, 2, 1, 0, 0, -60, false⟩)) :
    step ⟨ws, s, 4, 0, ins, outs⟩ = ⟨ws, s, 8, 0, ins, outs ++ [s.r 1]⟩ := by
  have hm := mem_may 2 1 0 (-60) (by omega) (by omega) (by omega) (by omega) (by omega) (by omega) (by omega) (by omega)
  have ha : adr ⟨ws, s, 4, 0, ins, outs⟩ ⟨5, 2, 1, 0, 0, -60, false⟩ = 4294967236 := adr0 _ 2 1 (-60) h0
  have eT : doT ⟨ws, s, 4, 0, ins, outs⟩ ⟨5, 2, 1, 0, 0, -60, false⟩ = 0 := by unfold doT swT; rw [if_pos rfl, if_neg (by simp), if_neg (by simp), if_pos rfl, ha, if_pos rfl]
  have eS : doS ⟨ws, s, 4, 0, ins, outs⟩ ⟨5, 2, 1, 0, 0, -60, false⟩ = s := by unfold doS; rw [if_pos rfl, if_neg (by simp), if_neg (by simp)]
  have eX : doX ⟨ws, s, 4, 0, ins, outs⟩ ⟨5, 2, 1, 0, 0, -60, false⟩ = ⟨ws, s, 4, 0, ins, outs ++ [s.r 1]⟩ := by
    unfold doX; rw [if_pos rfl, if_neg (by simp), if_neg (by simp), if_pos rfl, ha]
    unfold swW swO
    rw [if_pos rfl, if_pos rfl]; rfl
  rw [step_mem _ 2 1 0 (-60) 1 rfl rfl hk hm, eT, eS, eX, if_pos (Or.inl rfl)]
  rfl
theorem step_jmp (ws : List Int) (s : A.Regs) (ins outs : List Int) (hk : ws[2]? = some (I.word ⟨7, 7, 0, 0, 0, -3, false⟩)) : step ⟨ws, s, 8, 0, ins, outs⟩ = ⟨ws, s, 0, 0, ins, outs⟩ := by
  have ha := at_word ws 2 _ 8 hk rfl
  have ht : A.taken s 7 = true := by unfold A.taken; rw [if_pos (by omega)]; rfl
  have e1 : doT ⟨ws, s, 8, 0, ins, outs⟩ ⟨7, 7, 0, 0, 0, -3, false⟩ = 0 := by unfold doT; rw [if_neg (by simp), if_pos (by simp)]
  have e2 : doS ⟨ws, s, 8, 0, ins, outs⟩ ⟨7, 7, 0, 0, 0, -3, false⟩ = s := by unfold doS brS; rw [if_neg (by simp), if_pos (by simp), if_neg (by simp)]
  have e3 : doP ⟨ws, s, 8, 0, ins, outs⟩ ⟨7, 7, 0, 0, 0, -3, false⟩ = 0 := by unfold doP brP; rw [if_pos (by simp), if_pos ht, if_neg (by simp)]; rfl
  have e4 : doX ⟨ws, s, 8, 0, ins, outs⟩ ⟨7, 7, 0, 0, 0, -3, false⟩ = ⟨ws, s, 8, 0, ins, outs⟩ := by unfold doX; rw [if_neg (by simp)]
  rw [step_ins _ _ rfl ha.1 ha.2 jmp_may, e1, e2, e3, e4, if_pos (Or.inl rfl)]
/-- the first k inputs, 0 behind the last one -/
def pads : Nat → List Int → List Int
  | 0, _ => []
  | k + 1, l => l.headD 0 :: pads k l.tail
theorem pads_all : ∀ l : List Int, pads (l.length + 2) l = l ++ [0, 0]
  | [] => rfl
  | y :: l => by
    show y :: pads (l.length + 2) l = y :: (l ++ [0, 0])
    rw [pads_all l]
theorem ports (ws : List Int) (h0 : ws[0]? = some (I.word ⟨5, 0, 1, 0, 0, -64, false⟩)) (h1 : ws[1]? = some (I.word ⟨5, 2, 1, 0, 0, -60, false⟩)) (h2 : ws[2]? = some (I.word ⟨7, 7, 0, 0, 0, -3, false⟩)) :
    ∀ (k : Nat) (s : A.Regs) (ins outs : List Int), s.r 0 = 0 → ∃ s' is', go (3 * k) ⟨ws, s, 0, 0, ins, outs⟩ = ⟨ws, s', 0, 0, is', outs ++ pads k ins⟩
  | 0, s, ins, outs, _ => ⟨s, ins, by show St.mk _ _ _ _ _ _ = _; simp [pads]⟩
  | k + 1, s, ins, outs, hs => by
    have hs' : (A.show' (A.set s 1 (ins.headD 0)) (ins.headD 0)).r 0 = 0 := hs
    have h1' : (A.show' (A.set s 1 (ins.headD 0)) (ins.headD 0)).r 1 = ins.headD 0 := rfl
    have e1 := step_in ws s ins outs hs h0
    generalize A.show' (A.set s 1 (ins.headD 0)) (ins.headD 0) = s1 at *
    have e2 := step_out ws s1 ins.tail outs hs' h1
    rw [h1'] at e2
    have e3 := step_jmp ws s1 ins.tail (outs ++ [ins.headD 0]) h2
    obtain ⟨s', is', e⟩ := ports ws h0 h1 h2 k s1 ins.tail (outs ++ [ins.headD 0]) hs'
    refine ⟨s', is', ?_⟩
    rw [show 3 * (k + 1) = 3 + 3 * k by omega, go_add]
    have e0 : go 3 ⟨ws, s, 0, 0, ins, outs⟩ = ⟨ws, s1, 0, 0, ins.tail, outs ++ [ins.headD 0]⟩ := by show step (step (step _)) = _; rw [e1, e2, e3]
    rw [e0, e]
    simp [pads]
/-- the wrong way, a byte, and no port -/
theorem odd (ws : List Int) (ins outs : List Int) (op i : Int) (hl : ws.length = 3) (hk : ws[0]? = some (I.word ⟨5, op, 0, 0, 0, i, false⟩))
    (ho : (op = 0 ∧ i = -60) ∨ (op = 2 ∧ i = -64) ∨ (op = 1 ∧ i = -64) ∨ (op = 3 ∧ i = -60) ∨ (op = 0 ∧ i = -56)) : step ⟨ws, A.none', 0, 0, ins, outs⟩ = ⟨ws, A.none', 0, 3, ins, outs⟩ := by
  have hm := mem_may op 0 0 i (by omega) (by omega) (by omega) (by omega) (by omega) (by omega) (by omega) (by omega)
  have ha : adr ⟨ws, A.none', 0, 0, ins, outs⟩ ⟨5, op, 0, 0, 0, i, false⟩ = i % 4294967296 := adr0 _ op 0 i rfl
  have hb : ∀ t : Int, 4294967232 ≤ t → M.bt ws t = 3 := fun t h => by unfold M.bt; rw [if_pos (by omega)]
  have hw : ∀ t : Int, 4294967232 ≤ t → t % 4 = 0 → M.wt ws t = 3 := fun t h h4 => by unfold M.wt; rw [if_pos h4, hb t h]
  rw [step_mem _ op 0 0 i 0 rfl rfl hk hm]
  have eT : doT ⟨ws, A.none', 0, 0, ins, outs⟩ ⟨5, op, 0, 0, 0, i, false⟩ = 3 := by
    unfold doT ldT swT
    rw [if_pos rfl, ha]
    rcases ho with ⟨rfl, rfl⟩ | ⟨rfl, rfl⟩ | ⟨rfl, rfl⟩ | ⟨rfl, rfl⟩ | ⟨rfl, rfl⟩
    · rw [if_pos rfl, if_neg (by omega)]; exact hw _ (by omega) (by omega)
    · rw [if_neg (by simp), if_neg (by simp), if_pos rfl, if_neg (by omega), if_neg (by omega)]; exact hw _ (by omega) (by omega)
    · rw [if_neg (by simp), if_pos rfl]; exact hb _ (by omega)
    · rw [if_neg (by simp), if_neg (by simp), if_neg (by simp)]; exact hb _ (by omega)
    · rw [if_pos rfl, if_neg (by omega)]; exact hw _ (by omega) (by omega)
  have eX : doX ⟨ws, A.none', 0, 0, ins, outs⟩ ⟨5, op, 0, 0, 0, i, false⟩ = ⟨ws, A.none', 0, 0, ins, outs⟩ := by
    unfold doX ldI swW swO M.setW M.setB
    rw [if_pos rfl, ha]
    rcases ho with ⟨rfl, rfl⟩ | ⟨rfl, rfl⟩ | ⟨rfl, rfl⟩ | ⟨rfl, rfl⟩ | ⟨rfl, rfl⟩
    · rw [if_pos rfl, if_neg (by omega)]
    · rw [if_neg (by simp), if_neg (by simp), if_pos rfl, if_neg (by omega), if_neg (by omega), if_neg (by rw [hw _ (by omega) (by omega)]; omega), if_neg (by omega)]
    · rw [if_neg (by simp), if_pos rfl]
    · rw [if_neg (by simp), if_neg (by simp), if_neg (by simp), if_neg (by rw [hb _ (by omega)]; omega)]
    · rw [if_pos rfl, if_neg (by omega)]
  rw [eT, eX, if_neg (by omega)]
theorem halt (ws : List Int) (ins outs : List Int) (hk : ws[0]? = some (I.word ⟨5, 2, 1, 0, 0, -56, false⟩)) : step ⟨ws, A.none', 0, 0, ins, outs⟩ = ⟨ws, A.none', 4, 1, ins, outs⟩ := by
  have hm := mem_may 2 1 0 (-56) (by omega) (by omega) (by omega) (by omega) (by omega) (by omega) (by omega) (by omega)
  have ha : adr ⟨ws, A.none', 0, 0, ins, outs⟩ ⟨5, 2, 1, 0, 0, -56, false⟩ = 4294967240 := adr0 _ 2 1 (-56) rfl
  have eT : doT ⟨ws, A.none', 0, 0, ins, outs⟩ ⟨5, 2, 1, 0, 0, -56, false⟩ = 1 := by unfold doT swT; rw [if_pos rfl, if_neg (by simp), if_neg (by simp), if_pos rfl, ha, if_neg (by omega), if_pos rfl]
  have eS : doS ⟨ws, A.none', 0, 0, ins, outs⟩ ⟨5, 2, 1, 0, 0, -56, false⟩ = A.none' := by unfold doS; rw [if_pos rfl, if_neg (by simp), if_neg (by simp)]
  have eX : doX ⟨ws, A.none', 0, 0, ins, outs⟩ ⟨5, 2, 1, 0, 0, -56, false⟩ = ⟨ws, A.none', 0, 0, ins, outs⟩ := by
    unfold doX; rw [if_pos rfl, if_neg (by simp), if_neg (by simp), if_pos rfl, ha]
    unfold swW swO
    rw [if_neg (by omega), if_pos rfl, if_neg (by omega)]
  rw [step_mem _ 2 1 0 (-56) 0 rfl rfl hk hm, eT, eS, eX, if_pos (Or.inr rfl)]
  rfl
end X
end Go.Proofs.Ytlmddkciamdldaa
