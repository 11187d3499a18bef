/- An element of the calls. No conditions. -/
import Derived.Test.YtmiennkldkcnfaaDoorPn27
namespace Go.Proofs.YtmiennkldkcnfaaDoor
set_option maxRecDepth 100000
set_option linter.unusedVariables false
open Go.ChangeShapes Go.WideShapes Go.ChangeAt Go.RowKit Go.Joins Go.Deep
theorem cl_at {W : World} {n c : Nat} {a : Option Addr} {L : List Cl} (h : SrcN 11 W (.slice a n c) n (L.flatMap clv)) {i : Nat} {z : Cl} (hk : L[i]? = some z) :
    ∃ g o, a = some ⟨g, o, none⟩ ∧ ∀ j u, (clv z)[j]? = some u → W.cell? ⟨g, o + i * 11 + j, none⟩ = some u := by
  have hf : ∀ x : Cl, (clv x).length = 11 := fun _ => rfl
  obtain ⟨ao, c', e1, hl, h1⟩ := h
  injection e1 with e1 _ _
  subst e1
  rcases h1 with ⟨h1, _⟩ | ⟨g, o, rfl, hgl, hc⟩
  · have := (List.getElem?_eq_some_iff.1 hk).1
    rw [flat_len hf] at hl
    omega
  · refine ⟨g, o, rfl, fun j u hu => ?_⟩
    rw [Nat.add_assoc]
    exact hc (i * 11 + j) _ (flat_at hf L i z j u hk hu)
end Go.Proofs.YtmiennkldkcnfaaDoor
