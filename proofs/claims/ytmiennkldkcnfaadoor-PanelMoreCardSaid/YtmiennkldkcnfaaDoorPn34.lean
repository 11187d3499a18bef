/- Writing what was cut: the pixels of a rectangle become those of the other page. No conditions. -/
import Derived.Test.YtmiennkldkcnfaaDoorPn33
namespace Go.Proofs.YtmiennkldkcnfaaDoor
set_option maxRecDepth 100000
set_option linter.unusedVariables false
open Go.ChangeShapes Go.WideShapes Go.ChangeAt Go.RowKit Go.Joins Go.Deep
/-- Rows of which a rectangle is that of others. -/
def ovl (R N : List Nat) (c : Rc) : List Nat := PN.wrt (cutL N c) (cutL N c).length c.y.toNat c.x.toNat c.w.toNat R
theorem ovl_len (R N : List Nat) (c : Rc) : (ovl R N c).length = R.length := PN.wrt_len _ _ _ _ _ _
theorem ovl_bit {R N : List Nat} {c : Rc} {w : Nat} (hw : w ≤ 64) (hc : wiP c w R.length) (hl : N.length = R.length) (hR : ∀ r ∈ R, r < 2 ^ w) (j i : Nat) :
    ((ovl R N c).getD j 0).testBit i = if c.y.toNat ≤ j ∧ j < c.y.toNat + c.h.toNat ∧ c.x.toNat ≤ i ∧ i < c.x.toNat + c.w.toNat then (N.getD j 0).testBit i else (R.getD j 0).testBit i := by
  obtain ⟨h1, h2, h3, h4, h5, h6, h7, h8⟩ := hc
  have hcl : cutL N c = cutR N c.x.toNat c.y.toNat c.w.toNat c.h.toNat := by
    unfold cutL
    rw [if_pos ⟨h1, h2, h3, h4, by omega, by omega, by omega, by omega⟩]
  rw [List.getD_eq_getElem?_getD]
  unfold ovl
  rw [PN.wrt_at, hcl, cutR_len]
  by_cases hj : j < R.length
  · have e1 : R[j]? = some (R[j]'hj) := List.getElem?_eq_getElem hj
    have e2 : R.getD j 0 = R[j]'hj := by rw [List.getD_eq_getElem?_getD, e1]; rfl
    rw [e1, e2]
    show (if c.y.toNat ≤ j ∧ j < c.y.toNat + c.h.toNat then _ else _ : Nat).testBit i = _
    by_cases hy : c.y.toNat ≤ j ∧ j < c.y.toNat + c.h.toNat
    · rw [if_pos hy]
      have hg : (cutR N c.x.toNat c.y.toNat c.w.toNat c.h.toNat).getD (j - c.y.toNat) 0 = PN.cutb (N.getD j 0) c.x.toNat c.w.toNat := by
        unfold cutR
        rw [List.getD_eq_getElem?_getD, List.getElem?_map, List.getElem?_range (show j - c.y.toNat < c.h.toNat by omega)]
        show PN.cutb (N.getD (c.y.toNat + (j - c.y.toNat)) 0) _ _ = _
        rw [show c.y.toNat + (j - c.y.toNat) = j by omega]
      rw [hg, PN.ins_bit (Nat.lt_of_lt_of_le (hR _ (List.getElem_mem hj)) (Nat.pow_le_pow_right (by decide) hw)) (PN.cut_lt _ _ _) (by omega), PN.cut_bit]
      by_cases hx : c.x.toNat ≤ i ∧ i < c.x.toNat + c.w.toNat
      · rw [if_pos hx, if_pos ⟨hy.1, hy.2, hx.1, hx.2⟩, decide_eq_true (show i - c.x.toNat < c.w.toNat by omega), show c.x.toNat + (i - c.x.toNat) = i by omega]
        simp
      · rw [if_neg hx, if_neg (fun h => hx ⟨h.2.2.1, h.2.2.2⟩)]
    · rw [if_neg hy, if_neg (fun h => hy ⟨h.1, h.2.1⟩)]
  · have e1 : R[j]? = none := List.getElem?_eq_none (by omega)
    have e2 : R.getD j 0 = 0 := by rw [List.getD_eq_getElem?_getD, e1]; rfl
    rw [e1, e2, if_neg (by omega)]
    rfl
theorem ovl_lt {R N : List Nat} {c : Rc} {w : Nat} (hw : w ≤ 64) (hc : wiP c w R.length) (hl : N.length = R.length) (hR : ∀ r ∈ R, r < 2 ^ w) (hN : ∀ r ∈ N, r < 2 ^ w) : ∀ r ∈ ovl R N c, r < 2 ^ w := fun r hr => by
  obtain ⟨j, hj⟩ := List.mem_iff_getElem?.1 hr
  have e : (ovl R N c).getD j 0 = r := by rw [List.getD_eq_getElem?_getD, hj]; rfl
  refine PN.lt_of_bits fun i hi => ?_
  rw [← e, ovl_bit hw hc hl hR]
  have q1 := PN.bit_ge (getD_lt hN j) hi
  have q2 := PN.bit_ge (getD_lt hR j) hi
  split
  · exact q1
  · exact q2
/-- What is cut of a page is written into a panel with power: its pixels there are the page's. -/
theorem cut_wr {P : Pn} {N : List Nat} {c : Rc} (ho : PnOk P) (hf : P.fa = false) (hc : wiP c P.w P.R.length) (hl : N.length = P.R.length) : P.wr c (cutL N c) = (0, ⟨P.w, ovl P.R N c, P.upd + 1, false, P.left⟩) := by
  have h64 := ho.w64
  have hcl : cutL N c = cutR N c.x.toNat c.y.toNat c.w.toNat c.h.toNat := by
    obtain ⟨h1, h2, h3, h4, h5, h6, h7, h8⟩ := hc
    unfold cutL
    rw [if_pos ⟨h1, h2, h3, h4, by omega, by omega, by omega, by omega⟩]
  have hlen : (cutL N c).length = c.h.toNat := by rw [hcl, cutR_len]
  have hg : P.good c (cutL N c) := by
    refine ⟨hc, ?_, ?_⟩
    · rw [hlen]
      obtain ⟨h1, h2, h3, h4, h5, h6, h7, h8⟩ := hc
      omega
    · unfold anyW
      rw [List.any_eq_false, hcl]
      intro r hr
      unfold cutR at hr
      obtain ⟨j, -, rfl⟩ := List.mem_map.1 hr
      have := PN.cut_lt (N.getD (c.y.toNat + j) 0) c.x.toNat c.w.toNat
      rw [decide_eq_true_eq]
      exact Nat.not_le.2 this
  unfold Pn.wr
  rw [if_pos hg, if_pos (by unfold Pn.can; rw [hf, if_neg (by simp)])]
  unfold Pn.pre Pn.done ovl
  dsimp only
  rw [hf]
  rfl
end Go.Proofs.YtmiennkldkcnfaaDoor
