/- Rings: an element less. No conditions. -/
import Derived.Test.YtmnajongifdajaaMem4
namespace Go.Proofs.Ytmnajongifdajaa
set_option linter.unusedVariables false
open Go.RowKit
theorem nd_front {root : Nat} {A C : List Nat} {b : Nat} (h : (root :: (A ++ b :: C)).Nodup) : (∀ a ∈ A, a ≠ root ∧ a ≠ b ∧ ∀ c ∈ C, a ≠ c) ∧ (∀ c ∈ C, c ≠ root ∧ c ≠ b) ∧ b ≠ root := by
  have h2 := List.nodup_cons.1 h
  have h3 := List.nodup_append.1 h2.2
  have h4 := List.nodup_cons.1 h3.2.1
  refine ⟨fun a ha => ⟨fun y => h2.1 (by rw [← y]; simp [ha]), fun y => h3.2.2 a ha b (by simp) y, fun c hc y => h3.2.2 a ha c (by simp [hc]) y⟩, fun c hc => ⟨fun y => h2.1 (by rw [← y]; simp [hc]), fun y => h4.1 (by rw [← y]; exact hc)⟩, fun y => h2.1 (by rw [← y]; simp)⟩
theorem Rg.remove {W : World} {root b : Nat} {e : En} {A C : List (Nat × En)} (h : Rg W root (A ++ (b, e) :: C)) : Rg (remW W (lst root A) (hd C root)) root (A ++ C) := by
  obtain ⟨hn, hr, hs⟩ := h
  have h1 := sg_app.1 hs
  have hA := h1.1
  have hC := h1.2.2
  rw [List.map_append, List.map_cons] at hn
  obtain ⟨nA, nC, nb⟩ := nd_front hn
  have h2 := List.nodup_cons.1 hn
  have h3 := List.nodup_append.1 h2.2
  have h4 := List.nodup_cons.1 h3.2.1
  have hN : (root :: (A ++ C).map Prod.fst).Nodup := by
    rw [List.map_append]
    refine List.nodup_cons.2 ⟨fun x => h2.1 ?_, List.nodup_append.2 ⟨h3.1, h4.2, fun a ha c hc => (nA a ha).2.2 c hc⟩⟩
    rcases List.mem_append.1 x with x | x
    · exact List.mem_append.2 (.inl x)
    · exact List.mem_append.2 (.inr (List.mem_cons_of_mem _ x))
  refine ⟨hN, ?_⟩
  have hr' : Nd W root zE (ptr (lst b C)) (ptr (hd A b)) := by
    rw [hd_app, lst_app] at hr
    exact hr
  rcases List.eq_nil_or_concat A with rfl | ⟨A', x, hA'⟩
  · cases C with
    | nil => exact ⟨(hr'.set7 _).set6 _, trivial⟩
    | cons y C =>
      have hyr := (nC y.1 (by simp)).1
      refine ⟨(hr'.set7 _).other hyr.symm _, (hC.1.other hyr _).set6 _, hC.2.keep fun c hc => ?_⟩
      refine remW_other (nC c (by simp at hc ⊢; exact .inr hc)).1 (fun z => ?_)
      have h5 := h4.2
      rw [List.map_cons] at h5
      exact (List.nodup_cons.1 h5).1 (by rw [← show c = y.1 from z]; exact hc)
  · rw [List.concat_eq_append] at hA'
    subst hA'
    have hp : lst root (A' ++ [x]) = x.1 := by rw [lst_app]; rfl
    have hxr := (nA x.1 (by simp)).1
    have hx := hA.last
    have hA0 := (sg_app.1 hA).1
    have hAx : ∀ a ∈ A'.map Prod.fst, a ≠ x.1 := fun a ha y => by
      have h5 := h3.1
      rw [List.map_append] at h5
      exact (List.nodup_append.1 h5).2.2 a ha x.1 (by simp) y
    have hhd : hd (A' ++ [x]) b = hd (A' ++ [x]) (hd C root) := by rw [hd_app, hd_app]; rfl
    rw [hp]
    cases C with
    | nil =>
      rw [List.append_nil]
      refine ⟨?_, sg_app.2 ⟨hA0.keep fun a ha => ?_, ?_, trivial⟩⟩
      · rw [hp]
        have h6 := (hr'.other hxr.symm (i := 7) (ptr root)).set6 (ptr x.1)
        rw [hhd] at h6
        exact h6
      · exact remW_other (hAx a ha) (nA a (by simp at ha ⊢; exact .inl ha)).1
      · exact (hx.set7 _).other hxr _
    | cons y C =>
      have hxy : x.1 ≠ y.1 := (nA x.1 (by simp)).2.2 y.1 (by simp)
      have hyr := (nC y.1 (by simp)).1
      have hyC : ∀ c ∈ C.map Prod.fst, c ≠ y.1 := fun c hc z => by
        have h5 := h4.2
        rw [List.map_cons] at h5
        exact (List.nodup_cons.1 h5).1 (by rw [← z]; exact hc)
      refine ⟨?_, sg_app.2 ⟨sg_app.2 ⟨hA0.keep fun a ha => ?_, ?_, trivial⟩, ?_, ?_⟩⟩
      · have h6 := (hr'.other hxr.symm (i := 7) (ptr y.1)).other (c := y.1) (i := 6) hyr.symm (ptr x.1)
        rw [hhd] at h6
        rw [hd_app, lst_app]
        exact h6
      · exact remW_other (hAx a ha) (fun z => (nA a (by simp at ha ⊢; exact .inl ha)).2.2 y.1 (by simp) z)
      · exact (hx.set7 _).other hxy _
      · rw [hp]
        exact (hC.1.other hxy.symm _).set6 _
      · exact hC.2.keep fun c hc => remW_other (fun z => (nA x.1 (by simp)).2.2 c (by simp at hc ⊢; exact .inr hc) z.symm) (hyC c hc)
end Go.Proofs.Ytmnajongifdajaa
