/- What a plan is: within the page, in order, around all that differs, tight. No conditions. -/
import Derived.Test.YtmiennkldkcnfaaDoorPn35
namespace Go.Proofs.YtmiennkldkcnfaaDoor
set_option maxRecDepth 100000
set_option linter.unusedVariables false
open Go.ChangeShapes Go.WideShapes Go.ChangeAt Go.RowKit Go.Joins Go.Deep
theorem tight_wi {D : List Nat} {w n : Nat} {r : Rc} (hD : ∀ x ∈ D, x < 2 ^ w) (hn : D.length = n) (h : PN.Tight D r) : wiP r w n := by
  obtain ⟨h0, -, ⟨x, hx, -⟩, -, ⟨y, hy, -⟩⟩ := h
  have k1 : (r.y + r.h - 1).toNat < n := by
    refine Nat.lt_of_not_le fun hle => ?_
    unfold PN.Px at hx
    rw [List.getD_eq_getElem?_getD, List.getElem?_eq_none (by omega)] at hx
    simp at hx
  have k2 : (r.x + r.w - 1).toNat < w := by
    refine Nat.lt_of_not_le fun hle => ?_
    unfold PN.Px at hy
    rw [PN.bit_ge (getD_lt hD y) hle] at hy
    exact absurd hy (by simp)
  unfold wiP
  omega
theorem df_get {A B : List Nat} {w : Nat} (hl : A.length = B.length) (j : Nat) : (PN.df A B w).getD j 0 = (A.getD j 0 ^^^ B.getD j 0) &&& (2 ^ w - 1) := by
  unfold PN.df
  rw [List.getD_eq_getElem?_getD, List.getD_eq_getElem?_getD, List.getD_eq_getElem?_getD, List.getElem?_zipWith]
  by_cases h : j < A.length
  · rw [List.getElem?_eq_getElem h, List.getElem?_eq_getElem (show j < B.length by omega)]
    rfl
  · rw [List.getElem?_eq_none (show A.length ≤ j by omega), List.getElem?_eq_none (show B.length ≤ j by omega)]
    simp
theorem df_lt {A B : List Nat} {w : Nat} : ∀ x ∈ PN.df A B w, x < 2 ^ w := fun x hx => by
  unfold PN.df at hx
  obtain ⟨j, hj⟩ := List.mem_iff_getElem?.1 hx
  rw [List.getElem?_zipWith] at hj
  split at hj
  · have e := Option.some.inj hj
    rw [← e]
    exact PN.lt_of_bits fun i hi => by rw [Nat.testBit_and, PN.msk_bit]; simp; omega
  · exact absurd hj (by simp)
theorem df_px {A B : List Nat} {w : Nat} (hl : A.length = B.length) (hA : ∀ r ∈ A, r < 2 ^ w) (hB : ∀ r ∈ B, r < 2 ^ w) (i j : Nat) : PN.Px (PN.df A B w) i j ↔ (A.getD j 0).testBit i ≠ (B.getD j 0).testBit i := by
  unfold PN.Px
  rw [df_get hl, Nat.testBit_and, PN.msk_bit, Nat.testBit_xor]
  by_cases h : i < w
  · rw [decide_eq_true h]
    cases (A.getD j 0).testBit i <;> cases (B.getD j 0).testBit i <;> simp
  · rw [PN.bit_ge (getD_lt hA j) (by omega), PN.bit_ge (getD_lt hB j) (by omega)]
    simp
/-- A plan of two pages of one size. -/
theorem plan_facts {A B : List Nat} {w : Nat} (most : Nat) (hw : w ≤ 64) (hl : A.length = B.length) (hA : ∀ r ∈ A, r < 2 ^ w) (hB : ∀ r ∈ B, r < 2 ^ w) (hm : 1 ≤ most) :
    (∀ c ∈ PN.plan A B w most, wiP c w A.length ∧ PN.Tight (PN.df A B w) c) ∧ PN.Ord (PN.plan A B w most) ∧ (PN.plan A B w most).length ≤ most ∧ (∀ i j : Nat, (A.getD j 0).testBit i ≠ (B.getD j 0).testBit i → PN.Has (PN.plan A B w most) i j) := by
  have h64 : ∀ x ∈ PN.df A B w, x < 2 ^ 64 := fun x hx => Nat.lt_of_lt_of_le (df_lt x hx) (Nat.pow_le_pow_right (by decide) hw)
  have ht : ∀ c ∈ PN.plan A B w most, PN.Tight (PN.df A B w) c := PN.red_tight (PN.pl_tight _ h64 _)
  refine ⟨fun c hc => ⟨tight_wi df_lt (PN.df_len w hl) (ht c hc), ht c hc⟩, PN.red_ord (PN.pl_ord _ _).1, PN.red_most hm _ _ (Nat.le_refl _), fun i j hne => PN.red_has (PN.pl_has _ h64 _ i j ?_ ((df_px hl hA hB i j).2 hne))⟩
  refine Nat.lt_of_not_le fun hle => hne ?_
  rw [List.getD_eq_getElem?_getD, List.getD_eq_getElem?_getD, List.getElem?_eq_none hle, List.getElem?_eq_none (by omega)]
/-- A plan brings the other page. -/
theorem plan_brings {A B : List Nat} {w : Nat} (most : Nat) (hw : w ≤ 64) (hl : A.length = B.length) (hA : ∀ r ∈ A, r < 2 ^ w) (hB : ∀ r ∈ B, r < 2 ^ w) (hm : 1 ≤ most) : ovls A B (PN.plan A B w most) = B := by
  obtain ⟨h1, -, -, h4⟩ := plan_facts most hw hl hA hB hm
  exact ovls_all hw hB hl.symm hA (fun c hc => (h1 c hc).1) h4
end Go.Proofs.YtmiennkldkcnfaaDoor
