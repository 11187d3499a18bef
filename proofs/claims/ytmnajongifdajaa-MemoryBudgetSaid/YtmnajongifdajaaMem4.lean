/- Rings: an element more, an element less. No conditions. -/
import Derived.Test.YtmnajongifdajaaMem3
namespace Go.Proofs.Ytmnajongifdajaa
set_option linter.unusedVariables false
open Go.RowKit
theorem addW_other {W : World} {root e p0 b : Nat} (h1 : b ≠ root) (h2 : b ≠ e) (h3 : b ≠ p0) : (addW W root e p0).heap[b]? = W.heap[b]? := by
  unfold addW
  rw [Below.heap_setCell _ ⟨root, 6, none⟩ _ b h1, Below.heap_setCell _ ⟨p0, 7, none⟩ _ b h3, Below.heap_setCell _ ⟨e, 7, none⟩ _ b h2, Below.heap_setCell _ ⟨e, 6, none⟩ _ b h2]
theorem remW_other {W : World} {p q b : Nat} (h1 : b ≠ p) (h2 : b ≠ q) : (remW W p q).heap[b]? = W.heap[b]? := by
  unfold remW
  rw [Below.heap_setCell _ ⟨q, 6, none⟩ _ b h2, Below.heap_setCell _ ⟨p, 7, none⟩ _ b h1]
theorem Rg.add {W : World} {root e : Nat} {L : List (Nat × En)} {ee : En} {pe qe : Value} (h : Rg W root L) (he : Nd W e ee pe qe) (hne : e ∉ root :: L.map Prod.fst) : Rg (addW W root e (lst root L)) root (L ++ [(e, ee)]) := by
  obtain ⟨hn, hr, hs⟩ := h
  have her : e ≠ root := fun x => hne (by simp [x])
  have hel : ∀ b ∈ L.map Prod.fst, e ≠ b := fun b hb x => hne (by rw [x]; exact List.mem_cons_of_mem _ hb)
  have hN : (root :: (L ++ [(e, ee)]).map Prod.fst).Nodup := by
    rw [List.map_append, ← List.cons_append]
    refine List.nodup_append.2 ⟨hn, by simp, fun a ha b hb x => ?_⟩
    obtain rfl : b = e := by simpa using hb
    exact hne (x ▸ ha)
  refine ⟨hN, ?_⟩
  rcases List.eq_nil_or_concat L with rfl | ⟨A, x, hL⟩
  · show Nd (addW W root e root) root zE (ptr e) (ptr e) ∧ Nd (addW W root e root) e ee (ptr root) (ptr root) ∧ True
    have h1 : Nd W root zE (ptr root) (ptr root) := hr
    unfold addW
    exact ⟨(((h1.other her.symm _).other her.symm _).set7 _).set6 _, (((he.set6 _).set7 _).other her _).other her _, trivial⟩
  · rw [List.concat_eq_append] at hL
    subst hL
    have hx := hs.last
    have hA := (sg_app.1 hs).1
    have hlast : lst root (A ++ [x]) = x.1 := by rw [lst_app]; rfl
    rw [hlast] at hr ⊢
    have hxr : x.1 ≠ root := fun y => by
      have := (List.nodup_cons.1 hn).1
      exact this (by rw [← y]; simp)
    have hex : e ≠ x.1 := hel x.1 (by simp)
    have hAn : ∀ b ∈ A.map Prod.fst, b ≠ root ∧ b ≠ e ∧ b ≠ x.1 := fun b hb => by
      have hn2 := List.nodup_cons.1 hn
      refine ⟨fun y => hn2.1 (by rw [← y]; simp at hb ⊢; exact .inl hb), fun y => hel b (by simp at hb ⊢; exact .inl hb) y.symm, fun y => ?_⟩
      have h3 := hn2.2
      rw [List.map_append] at h3
      exact (List.nodup_append.1 h3).2.2 b hb x.1 (by simp) y
    have hhd : hd (A ++ [x] ++ [(e, ee)]) root = hd (A ++ [x]) root := by rw [hd_app, hd_app, hd_app]; rfl
    refine ⟨?_, ?_⟩
    · rw [hhd, show lst root (A ++ [x] ++ [(e, ee)]) = e by rw [lst_app]; rfl]
      unfold addW
      exact (((hr.other her.symm _).other her.symm _).other hxr.symm _).set6 _
    · rw [List.append_assoc]
      refine sg_app.2 ⟨?_, ?_, ?_, trivial⟩
      · exact hA.keep fun b hb => addW_other (hAn b hb).1 (hAn b hb).2.1 (hAn b hb).2.2
      · unfold addW
        exact (((hx.other hex.symm _).other hex.symm _).set7 _).other hxr _
      · unfold addW
        exact (((he.set6 _).set7 _).other hex _).other her _
theorem lst_ne {root b : Nat} {e : En} {A C : List (Nat × En)} (hn : (root :: (A ++ (b, e) :: C).map Prod.fst).Nodup) : lst root A ≠ b := by
  intro y
  have h2 := List.nodup_cons.1 hn
  rcases lst_mem root A with h | h
  · exact h2.1 (by rw [← h, y]; simp)
  · have h3 := h2.2
    rw [List.map_append] at h3
    exact (List.nodup_append.1 h3).2.2 _ h b (by simp) y
theorem hd_ne {root b : Nat} {e : En} {A C : List (Nat × En)} (hn : (root :: (A ++ (b, e) :: C).map Prod.fst).Nodup) : hd C root ≠ b := by
  intro y
  have h2 := List.nodup_cons.1 hn
  have h3 := h2.2
  rw [List.map_append, List.map_cons] at h3
  have h4 := (List.nodup_append.1 h3).2.1
  rcases hd_mem C root with h | h
  · exact h2.1 (by rw [← h, y]; simp)
  · exact (List.nodup_cons.1 h4).1 (by rw [← y]; exact h)
/-- The pointers of the neighbours, and of the element. -/
theorem Rg.parts {W : World} {root b : Nat} {e : En} {A C : List (Nat × En)} (h : Rg W root (A ++ (b, e) :: C)) : Nd W b e (ptr (lst root A)) (ptr (hd C root)) ∧ (∃ ep pp, Nd W (lst root A) ep pp (ptr b)) ∧ (∃ eq qq, Nd W (hd C root) eq (ptr b) qq) ∧ lst root A ≠ b ∧ hd C root ≠ b := by
  obtain ⟨hn, hr, hs⟩ := h
  have h1 := sg_app.1 hs
  refine ⟨h1.2.1, ?_, ?_, lst_ne hn, hd_ne hn⟩
  · rcases List.eq_nil_or_concat A with rfl | ⟨A', x, hA⟩
    · exact ⟨_, _, hr⟩
    · rw [List.concat_eq_append] at hA
      subst hA
      rw [show lst root (A' ++ [x]) = x.1 by rw [lst_app]; rfl]
      exact ⟨_, _, h1.1.last⟩
  · cases C with
    | nil =>
      rw [show lst root (A ++ [(b, e)]) = b by rw [lst_app]; rfl] at hr
      exact ⟨_, _, hr⟩
    | cons y C => exact ⟨_, _, h1.2.2.1⟩
end Go.Proofs.Ytmnajongifdajaa
