/- What joining keeps: a plan taken apart. No conditions. -/
import Derived.Test.YtmiennkldkcnfaaDoorPn23
namespace Go.Proofs.YtmiennkldkcnfaaDoor.PN
set_option linter.unusedVariables false
theorem split_two {l : List Rc} {b : Nat} (h : b + 1 < l.length) : l = l.take b ++ at' l b :: at' l (b + 1) :: l.drop (b + 2) := by
  have e1 : at' l b = l[b]'(by omega) := by unfold at'; rw [List.getD_eq_getElem?_getD, List.getElem?_eq_getElem (by omega)]; rfl
  have e2 : at' l (b + 1) = l[b + 1]'h := by unfold at'; rw [List.getD_eq_getElem?_getD, List.getElem?_eq_getElem h]; rfl
  rw [e1, e2]
  have d1 := List.drop_eq_getElem_cons (show b < l.length by omega)
  have d2 := List.drop_eq_getElem_cons h
  rw [← d2, ← d1, List.take_append_drop]
/-- What holds of a row of rectangles, and of each row in which two neighbours were joined, holds of a plan. -/
theorem red_ind {M : List Rc → Prop} (hj : ∀ A p q C, M (A ++ p :: q :: C) → M (A ++ both p q :: C)) (most : Nat) : ∀ (n : Nat) (l : List Rc), l.length ≤ n → M l → M (red most l)
  | 0, l, h, hm => by rw [red_end (by omega)]; exact hm
  | n + 1, l, h, hm => by
    by_cases h1 : most < l.length ∧ 1 ≤ most
    · have h2 := jn1_len (l := l) (by omega)
      rw [red_go h1.1 h1.2]
      refine red_ind hj most n (jn1 l) (by omega) ?_
      have hb := bst_le l (l.length - 2)
      have hs := split_two (l := l) (b := bst l (l.length - 2)) (by omega)
      unfold jn1 jn
      refine hj _ _ _ _ ?_
      rw [← hs]
      exact hm
    · rw [red, dif_neg h1]
      exact hm
theorem red_most {most : Nat} (h1 : 1 ≤ most) : ∀ (n : Nat) (l : List Rc), l.length ≤ n → (red most l).length ≤ most
  | 0, l, h => by rw [red_end (by omega)]; omega
  | n + 1, l, h => by
    by_cases h2 : most < l.length
    · have h3 := jn1_len (l := l) (by omega)
      rw [red_go h2 h1]
      exact red_most h1 n (jn1 l) (by omega)
    · rw [red_end h2]
      omega
/-- Rectangles that lie one under the other, each with rows. -/
def Ord (l : List Rc) : Prop := l.Pairwise (fun a b => a.y + a.h ≤ b.y) ∧ ∀ r ∈ l, 0 ≤ r.y ∧ 1 ≤ r.h
theorem ord_join (A : List Rc) (p q : Rc) (C : List Rc) (h : Ord (A ++ p :: q :: C)) : Ord (A ++ both p q :: C) := by
  obtain ⟨h1, h2⟩ := h
  have hp := h2 p (by simp)
  have hq := h2 q (by simp)
  rw [List.pairwise_append] at h1
  obtain ⟨hA, hpq, hx⟩ := h1
  rw [List.pairwise_cons, List.pairwise_cons] at hpq
  obtain ⟨k1, k2, k3⟩ := hpq
  have hpy := k1 q (by simp)
  have e1 : (both p q).y = p.y := by unfold both; dsimp only; omega
  have e2 : (both p q).y + (both p q).h = q.y + q.h := by unfold both; dsimp only; omega
  refine ⟨?_, fun r hr => ?_⟩
  · rw [List.pairwise_append, List.pairwise_cons]
    refine ⟨hA, ⟨fun c hc => ?_, k3⟩, fun a ha c hc => ?_⟩
    · rw [e2]
      exact k2 c hc
    · rcases List.mem_cons.1 hc with rfl | hc
      · rw [e1]
        exact hx a ha p (by simp)
      · exact hx a ha c (by simp [hc])
  · rcases List.mem_append.1 hr with hr | hr
    · exact h2 r (by simp [hr])
    · rcases List.mem_cons.1 hr with rfl | hr
      · omega
      · exact h2 r (by simp [hr])
theorem red_ord {most : Nat} {l : List Rc} (h : Ord l) : Ord (red most l) := red_ind ord_join most l.length l (Nat.le_refl _) h
/-- Each of the pixels of the first lies in one of the second's rectangles. -/
def Has (l : List Rc) (x y : Int) : Prop := ∃ r ∈ l, r.x ≤ x ∧ x < r.x + r.w ∧ r.y ≤ y ∧ y < r.y + r.h
theorem has_join (A : List Rc) (p q : Rc) (C : List Rc) (x y : Int) (h : Has (A ++ p :: q :: C) x y) : Has (A ++ both p q :: C) x y := by
  obtain ⟨r, hr, h1, h2, h3, h4⟩ := h
  have hb : r = p ∨ r = q → Has (A ++ both p q :: C) x y := fun e => ⟨both p q, by simp, by
    unfold both
    dsimp only
    rcases e with rfl | rfl <;> omega⟩
  rcases List.mem_append.1 hr with hr | hr
  · exact ⟨r, by simp [hr], h1, h2, h3, h4⟩
  · rcases List.mem_cons.1 hr with e | hr
    · exact hb (.inl e)
    · rcases List.mem_cons.1 hr with e | hr
      · exact hb (.inr e)
      · exact ⟨r, by simp [hr], h1, h2, h3, h4⟩
theorem red_has {most : Nat} {l : List Rc} {x y : Int} (h : Has l x y) : Has (red most l) x y := red_ind (M := fun l => Has l x y) (fun A p q C => has_join A p q C x y) most l.length l (Nat.le_refl _) h
end Go.Proofs.YtmiennkldkcnfaaDoor.PN
