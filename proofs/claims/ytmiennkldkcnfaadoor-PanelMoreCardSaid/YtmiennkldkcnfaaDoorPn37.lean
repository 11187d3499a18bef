/- Writing while the power fails: each pixel is one of either page. No conditions. -/
import Derived.Test.YtmiennkldkcnfaaDoorPn36
namespace Go.Proofs.YtmiennkldkcnfaaDoor
set_option maxRecDepth 100000
set_option linter.unusedVariables false
open Go.ChangeShapes Go.WideShapes Go.ChangeAt Go.RowKit Go.Joins Go.Deep
/-- Each pixel is one of either page. -/
def Mix (A B R : List Nat) : Prop := ∀ j i, (R.getD j 0).testBit i = (A.getD j 0).testBit i ∨ (R.getD j 0).testBit i = (B.getD j 0).testBit i
theorem cutL_wi {N : List Nat} {c : Rc} {w n : Nat} (hw : w ≤ 64) (hc : wiP c w n) (hl : N.length = n) : cutL N c = cutR N c.x.toNat c.y.toNat c.w.toNat c.h.toNat := by
  obtain ⟨h1, h2, h3, h4, h5, h6, h7, h8⟩ := hc
  unfold cutL
  rw [if_pos ⟨h1, h2, h3, h4, by omega, by omega, by omega, by omega⟩]
theorem wrk_bit {R N : List Nat} {c : Rc} {w k : Nat} (hw : w ≤ 64) (hc : wiP c w R.length) (hl : N.length = R.length) (hR : ∀ r ∈ R, r < 2 ^ w) (hk : k ≤ c.h.toNat) (j i : Nat) :
    ((PN.wrt (cutL N c) k c.y.toNat c.x.toNat c.w.toNat R).getD j 0).testBit i = if c.y.toNat ≤ j ∧ j < c.y.toNat + k ∧ c.x.toNat ≤ i ∧ i < c.x.toNat + c.w.toNat then (N.getD j 0).testBit i else (R.getD j 0).testBit i := by
  have hcl := cutL_wi hw hc hl
  obtain ⟨h1, h2, h3, h4, h5, h6, h7, h8⟩ := hc
  rw [List.getD_eq_getElem?_getD, PN.wrt_at, hcl]
  by_cases hj : j < R.length
  · have e1 : R[j]? = some (R[j]'hj) := List.getElem?_eq_getElem hj
    have e2 : R.getD j 0 = R[j]'hj := by rw [List.getD_eq_getElem?_getD, e1]; rfl
    rw [e1, e2]
    show (if c.y.toNat ≤ j ∧ j < c.y.toNat + k then _ else _ : Nat).testBit i = _
    by_cases hy : c.y.toNat ≤ j ∧ j < c.y.toNat + k
    · rw [if_pos hy]
      have hg : (cutR N c.x.toNat c.y.toNat c.w.toNat c.h.toNat).getD (j - c.y.toNat) 0 = PN.cutb (N.getD j 0) c.x.toNat c.w.toNat := by
        unfold cutR
        rw [List.getD_eq_getElem?_getD, List.getElem?_map, List.getElem?_range (show j - c.y.toNat < c.h.toNat by omega)]
        show PN.cutb (N.getD (c.y.toNat + (j - c.y.toNat)) 0) _ _ = _
        rw [show c.y.toNat + (j - c.y.toNat) = j by omega]
      rw [hg, PN.ins_bit (Nat.lt_of_lt_of_le (hR _ (List.getElem_mem hj)) (Nat.pow_le_pow_right (by decide) hw)) (PN.cut_lt _ _ _) (by omega), PN.cut_bit]
      by_cases hx : c.x.toNat ≤ i ∧ i < c.x.toNat + c.w.toNat
      · rw [if_pos hx, if_pos ⟨hy.1, hy.2, hx.1, hx.2⟩, decide_eq_true (show i - c.x.toNat < c.w.toNat by omega), show c.x.toNat + (i - c.x.toNat) = i by omega]
        simp
      · rw [if_neg hx, if_neg (fun h => hx ⟨h.2.2.1, h.2.2.2⟩)]
    · rw [if_neg hy, if_neg (fun h => hy ⟨h.1, h.2.1⟩)]
  · have e1 : R[j]? = none := List.getElem?_eq_none (by omega)
    have e2 : R.getD j 0 = 0 := by rw [List.getD_eq_getElem?_getD, e1]; rfl
    rw [e1, e2, if_neg (by omega)]
    rfl
theorem cut_good {P : Pn} {N : List Nat} {c : Rc} (ho : PnOk P) (hc : wiP c P.w P.R.length) (hl : N.length = P.R.length) : P.good c (cutL N c) ∧ (cutL N c).length = c.h.toNat := by
  have hcl := cutL_wi ho.w64 hc hl
  have hlen : (cutL N c).length = c.h.toNat := by rw [hcl, cutR_len]
  refine ⟨⟨hc, ?_, ?_⟩, hlen⟩
  · rw [hlen]
    obtain ⟨h1, h2, h3, h4, h5, h6, h7, h8⟩ := hc
    omega
  · unfold anyW
    rw [List.any_eq_false, hcl]
    intro r hr
    unfold cutR at hr
    obtain ⟨j, -, rfl⟩ := List.mem_map.1 hr
    have := PN.cut_lt (N.getD (c.y.toNat + j) 0) c.x.toNat c.w.toNat
    rw [decide_eq_true_eq]
    exact Nat.not_le.2 this
/-- A panel whose power fails, after so many rows of a plan's rectangles. -/
structure Fst (A B : List Nat) (w rows H : Nat) (P : Pn) : Prop where
  w : P.w = w
  len : P.R.length = A.length
  mix : Mix A B P.R
  fa : P.fa = true
  left : P.left = rows - H
  ok : PnOk P
theorem fst_step {A B : List Nat} {w rows H : Nat} {P : Pn} (h : Fst A B w rows H P) (hl : A.length = B.length) {c : Rc} (hc : wiP c w A.length) (hu : P.upd < 1000000) :
    (P.wr c (cutL B c)).1 = (if rows < H + c.h.toNat then 52 else 0) ∧ Fst A B w rows (H + c.h.toNat) (P.wr c (cutL B c)).2 ∧ (P.wr c (cutL B c)).2.upd ≤ P.upd + 1 := by
  have hcw : wiP c P.w P.R.length := by rw [h.w, h.len]; exact hc
  obtain ⟨hg, hlen⟩ := cut_good (N := B) h.ok hcw (by rw [h.len]; exact hl.symm)
  obtain ⟨ho, hup⟩ := wr_ok h.ok hu c (cutL B c)
  have hp : 1 ≤ c.h := hc.2.2.2.1
  have hmix : ∀ k, k ≤ c.h.toNat → Mix A B (PN.wrt (cutL B c) k c.y.toNat c.x.toNat c.w.toNat P.R) := fun k hk j i => by
    rw [wrk_bit h.ok.w64 hcw (by rw [h.len]; exact hl.symm) h.ok.bits hk]
    split
    · exact .inr rfl
    · exact h.mix j i
  have hcan : P.can (cutL B c).length = min (rows - H) c.h.toNat := by
    unfold Pn.can
    rw [if_pos h.fa, h.left, hlen]
  refine ⟨?_, ⟨?_, ?_, ?_, ?_, ?_, ho⟩, hup⟩ <;> unfold Pn.wr <;> rw [if_pos hg, hcan] <;> rw [hlen]
  · by_cases hr : rows < H + c.h.toNat
    · rw [if_neg (by omega), if_pos hr]
    · rw [if_pos (by omega), if_neg hr]
  · split
    · exact h.w
    · exact h.w
  · split
    · show (PN.wrt _ _ _ _ _ _).length = _
      rw [PN.wrt_len, h.len]
    · show (PN.wrt _ _ _ _ _ _).length = _
      rw [PN.wrt_len, h.len]
  · split
    · exact hmix _ (Nat.le_refl _)
    · exact hmix _ (Nat.min_le_right _ _)
  · split
    · exact h.fa
    · exact h.fa
  · by_cases hr : rows < H + c.h.toNat
    · rw [if_neg (by omega)]
      show (if P.fa = true then P.left - _ else P.left) = _
      rw [if_pos h.fa, h.left]
      omega
    · rw [if_pos (by omega)]
      show (if P.fa = true then P.left - _ else P.left) = _
      rw [if_pos h.fa, h.left]
      omega
/-- What the law asks of each row. -/
theorem mix_zero {A B R : List Nat} (h : Mix A B R) (j : Nat) : (R.getD j 0 ^^^ A.getD j 0) &&& (R.getD j 0 ^^^ B.getD j 0) = 0 := by
  refine Nat.eq_of_testBit_eq fun i => ?_
  rw [Nat.testBit_and, Nat.testBit_xor, Nat.testBit_xor, Nat.zero_testBit]
  rcases h j i with e | e <;> rw [e] <;> simp
end Go.Proofs.YtmiennkldkcnfaaDoor
