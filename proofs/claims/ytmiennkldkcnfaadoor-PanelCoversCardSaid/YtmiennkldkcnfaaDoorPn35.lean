/- All rectangles of a plan written: the other page. No conditions. -/
import Derived.Test.YtmiennkldkcnfaaDoorPn34
import Derived.Test.YtmiennkldkcnfaaDoorPn31
namespace Go.Proofs.YtmiennkldkcnfaaDoor
set_option maxRecDepth 100000
set_option linter.unusedVariables false
open Go.ChangeShapes Go.WideShapes Go.ChangeAt Go.RowKit Go.Joins Go.Deep
def ovls (R N : List Nat) (l : List Rc) : List Nat := l.foldl (fun A c => ovl A N c) R
def InR (c : Rc) (j i : Nat) : Prop := c.y.toNat ≤ j ∧ j < c.y.toNat + c.h.toNat ∧ c.x.toNat ≤ i ∧ i < c.x.toNat + c.w.toNat
theorem ovls_len (N : List Nat) : ∀ (l : List Rc) (R : List Nat), (ovls R N l).length = R.length
  | [], R => rfl
  | c :: l, R => by
    show (ovls (ovl R N c) N l).length = R.length
    rw [ovls_len N l, ovl_len]
theorem ovls_bit {N : List Nat} {w : Nat} (hw : w ≤ 64) (hN : ∀ r ∈ N, r < 2 ^ w) : ∀ (l : List Rc) (R : List Nat), N.length = R.length → (∀ r ∈ R, r < 2 ^ w) → (∀ c ∈ l, wiP c w R.length) → ∀ j i,
    ((∃ c ∈ l, InR c j i) → ((ovls R N l).getD j 0).testBit i = (N.getD j 0).testBit i) ∧ ((¬ ∃ c ∈ l, InR c j i) → ((ovls R N l).getD j 0).testBit i = (R.getD j 0).testBit i)
  | [], R, hl, hR, hc, j, i => ⟨fun ⟨c, h, _⟩ => by simp at h, fun _ => rfl⟩
  | c :: l, R, hl, hR, hc, j, i => by
    have hc0 := hc c (by simp)
    have ih := ovls_bit hw hN l (ovl R N c) (by rw [ovl_len]; exact hl) (ovl_lt hw hc0 hl hR hN) (fun x hx => by rw [ovl_len]; exact hc x (by simp [hx])) j i
    have hb := ovl_bit hw hc0 hl hR j i
    show (_ → ((ovls (ovl R N c) N l).getD j 0).testBit i = _) ∧ (_ → ((ovls (ovl R N c) N l).getD j 0).testBit i = _)
    by_cases h2 : ∃ x ∈ l, InR x j i
    · refine ⟨fun _ => ih.1 h2, fun h => absurd ?_ h⟩
      obtain ⟨x, hx, hi⟩ := h2
      exact ⟨x, by simp [hx], hi⟩
    · rw [ih.2 h2, hb]
      refine ⟨fun ⟨x, hx, hi⟩ => ?_, fun h => ?_⟩
      · rcases List.mem_cons.1 hx with rfl | hx
        · exact if_pos hi
        · exact absurd ⟨x, hx, hi⟩ h2
      · exact if_neg (fun hi => h ⟨c, by simp, hi⟩)
/-- When each pixel that differs lies in one of the rectangles, the other page comes. -/
theorem ovls_all {R N : List Nat} {w : Nat} {l : List Rc} (hw : w ≤ 64) (hN : ∀ r ∈ N, r < 2 ^ w) (hl : N.length = R.length) (hR : ∀ r ∈ R, r < 2 ^ w) (hc : ∀ c ∈ l, wiP c w R.length)
    (hd : ∀ i j : Nat, (R.getD j 0).testBit i ≠ (N.getD j 0).testBit i → PN.Has l i j) : ovls R N l = N := by
  have hbit : ∀ j i, ((ovls R N l).getD j 0).testBit i = (N.getD j 0).testBit i := fun j i => by
    obtain ⟨b1, b2⟩ := ovls_bit hw hN l R hl hR hc j i
    by_cases h : ∃ c ∈ l, InR c j i
    · exact b1 h
    · rw [b2 h]
      refine Classical.byContradiction fun hne => h ?_
      obtain ⟨c, hcl, k1, k2, k3, k4⟩ := hd i j hne
      obtain ⟨h1, h2, h3, h4, -⟩ := hc c hcl
      exact ⟨c, hcl, by unfold InR; omega⟩
  refine List.ext_getElem? fun j => ?_
  by_cases hj : j < N.length
  · have h1 := List.getElem?_eq_getElem hj
    have h2 := List.getElem?_eq_getElem (l := ovls R N l) (i := j) (by rw [ovls_len]; omega)
    have e : (ovls R N l).getD j 0 = N.getD j 0 := Nat.eq_of_testBit_eq fun i => hbit j i
    rw [List.getD_eq_getElem?_getD, List.getD_eq_getElem?_getD, h1, h2] at e
    rw [h1, h2]
    exact congrArg some e
  · have h1 : (ovls R N l)[j]? = none := List.getElem?_eq_none (by rw [ovls_len]; omega)
    have h2 : N[j]? = none := List.getElem?_eq_none (by omega)
    rw [h1, h2]
end Go.Proofs.YtmiennkldkcnfaaDoor
