/- The rectangles of the rows that differ: in order, around each pixel that differs, tight. No conditions. -/
import Derived.Test.YtmiennkldkcnfaaDoorPn29
namespace Go.Proofs.YtmiennkldkcnfaaDoor.PN
set_option linter.unusedVariables false
theorem pl_ne (D : List Nat) : ∀ k, (pl D k).2 = true → (pl D k).1 ≠ []
  | 0, h => by simp [pl] at h
  | k + 1, h => by
    show (stp (pl D k) k (D.getD k 0)).1 ≠ []
    have h' : (stp (pl D k) k (D.getD k 0)).2 = true := h
    unfold stp at h' ⊢
    split
    · rename_i h0
      rw [if_pos h0] at h'
      exact absurd h' (by simp)
    · split <;> simp
theorem last_split {l : List Rc} (h : l ≠ []) : l = l.dropLast ++ [l.getLastD zr] := by
  rw [List.getLastD_eq_getLast?, List.getLast?_eq_some_getLast h]
  exact (List.dropLast_concat_getLast h).symm
/-- What holds of no rectangle, is kept by joining, by a row that does not differ, and by the rectangle of one that does, holds of the rectangles of the rows. -/
theorem pl_ind {D : List Nat} {M : Nat → List Rc → Prop} (h0 : M 0 []) (hj : ∀ k A p q C, M k (A ++ p :: q :: C) → M k (A ++ both p q :: C)) (hz : ∀ k l, D.getD k 0 = 0 → M k l → M (k + 1) l) (ha : ∀ k l, D.getD k 0 ≠ 0 → M k l → M (k + 1) (l ++ [rowR k (D.getD k 0)])) : ∀ n, M n (pl D n).1
  | 0 => h0
  | n + 1 => by
    have ih := pl_ind h0 hj hz ha n
    show M (n + 1) (stp (pl D n) n (D.getD n 0)).1
    unfold stp
    by_cases hd : D.getD n 0 = 0
    · rw [if_pos hd]
      exact hz n _ hd ih
    · rw [if_neg hd]
      have h2 := ha n _ hd ih
      by_cases hs : (pl D n).2 = true
      · rw [if_pos hs]
        have hl := last_split (pl_ne D n hs)
        rw [hl, List.append_assoc] at h2
        exact hj (n + 1) _ _ _ [] h2
      · rw [if_neg hs]
        exact h2
theorem pl_ord (D : List Nat) (n : Nat) : Ord (pl D n).1 ∧ ∀ r ∈ (pl D n).1, r.y + r.h ≤ n := by
  refine pl_ind (D := D) (M := fun k l => Ord l ∧ ∀ r ∈ l, r.y + r.h ≤ k) ⟨⟨List.Pairwise.nil, fun r h => by simp at h⟩, fun r h => by simp at h⟩ (fun k A p q C h => ⟨ord_join A p q C h.1, fun r hr => ?_⟩) (fun k l _ h => ⟨h.1, fun r hr => by have := h.2 r hr; omega⟩) (fun k l _ h => ⟨⟨?_, fun r hr => ?_⟩, fun r hr => ?_⟩) n
  · have hp := h.2 p (by simp)
    have hq := h.2 q (by simp)
    rcases List.mem_append.1 hr with hr | hr
    · exact h.2 r (by simp [hr])
    · rcases List.mem_cons.1 hr with rfl | hr
      · unfold both
        dsimp only
        omega
      · exact h.2 r (by simp [hr])
  · rw [List.pairwise_append]
    refine ⟨h.1.1, List.pairwise_singleton _ _, fun a ha b hb => ?_⟩
    rw [List.mem_singleton.1 hb]
    exact h.2 a ha
  · rcases List.mem_append.1 hr with hr | hr
    · exact h.1.2 r hr
    · rw [List.mem_singleton.1 hr]
      unfold rowR
      dsimp only
      omega
  · rcases List.mem_append.1 hr with hr | hr
    · have := h.2 r hr
      omega
    · rw [List.mem_singleton.1 hr]
      unfold rowR
      dsimp only
      omega
end Go.Proofs.YtmiennkldkcnfaaDoor.PN
