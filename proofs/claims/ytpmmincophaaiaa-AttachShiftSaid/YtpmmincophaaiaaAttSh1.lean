/- What a row of glyphs of the call's own holds at a place. No conditions. -/
import Derived.Test.YtpmmincophaaiaaAttSh
import Derived.Test.YtpmmincophaaiaaAttBeh0
namespace Go.Proofs.Ytpmmincophaaiaa
set_option maxRecDepth 100000
set_option linter.unusedVariables false
open Go.RowKit Go.Deep
theorem OwnD.at' {W : World} {B n k : Nat} {a : Option Addr} {c : Nat} {X : List (AT.Dr × Value)} {d : AT.Dr} {va : Value} (h : OwnD W B (.slice a n c) X) (hn : X.length = n) (hk : X[k]? = some (d, va)) :
    ∃ g aa ac, a = some ⟨g, 0, none⟩ ∧ va = .slice aa d.anchors.length ac ∧ B ≤ g ∧ W.ownsRow B 33 3 (.slice aa d.anchors.length ac) d.anchors.length (anc d.anchors) ∧ (∀ j, W.frozen? ⟨g, j, none⟩ = false) ∧
      W.cell? ⟨g, k * 6 + 1, none⟩ = some (.slice aa d.anchors.length ac) ∧ W.cell? ⟨g, k * 6 + 2, none⟩ = some (.int .i64 d.hang.1) ∧ W.cell? ⟨g, k * 6 + 3, none⟩ = some (.int .i64 d.hang.2.1) ∧ W.cell? ⟨g, k * 6 + 4, none⟩ = some (.int .i64 d.hang.2.2) := by
  obtain ⟨hrow, han, -⟩ := h
  rw [hn] at hrow
  have hkn := (List.getElem?_eq_some_iff.1 hk).1
  rcases hrow.2 with ⟨hv, h0⟩ | ⟨g, cap, cur, hv, hb, hg, _⟩
  · omega
  · injection hv with e1 e2 e3
    subst e1 e3
    obtain ⟨h0, h1, h2, h3, h4, h5⟩ := drc_at X k _ hk
    obtain ⟨h6, -⟩ := han _ (List.mem_of_getElem? hk)
    simp only at h6
    obtain ⟨aa, ac, e⟩ := own_shape h6
    subst e
    exact ⟨g, aa, ac, rfl, rfl, hb, h6, fun j => hrow.frozenAt j, (hrow.cellAt (k * 6 + 1) (by omega)).trans h1, (hrow.cellAt (k * 6 + 2) (by omega)).trans h2, (hrow.cellAt (k * 6 + 3) (by omega)).trans h3, (hrow.cellAt (k * 6 + 4) (by omega)).trans h4⟩
theorem an_at' {W : World} {B m i : Nat} {aa : Option Addr} {ac : Nat} {l : List AT.An} {z : AT.An} (h : W.ownsRow B 33 3 (.slice aa m ac) m (anc l)) (hm : l.length = m) (hz : l[i]? = some z) :
    ∃ q, aa = some ⟨q, 0, none⟩ ∧ B ≤ q ∧ (∀ j, W.frozen? ⟨q, j, none⟩ = false) ∧ W.cell? ⟨q, i * 3, none⟩ = some (.int .i64 z.1) ∧ W.cell? ⟨q, i * 3 + 1, none⟩ = some (.int .i64 z.2.1) ∧ W.cell? ⟨q, i * 3 + 2, none⟩ = some (.int .i64 z.2.2) := by
  have hi := (List.getElem?_eq_some_iff.1 hz).1
  rcases h.2 with ⟨hv, h0⟩ | ⟨g, cap, cur, hv, hb, hg, _⟩
  · omega
  · injection hv with e1 e2 e3
    subst e1 e3
    obtain ⟨h0, h1, h2⟩ := anc_at l i z hz
    exact ⟨g, rfl, hb, fun j => h.frozenAt j, (h.cellAt (i * 3) (by omega)).trans h0, (h.cellAt (i * 3 + 1) (by omega)).trans h1, (h.cellAt (i * 3 + 2) (by omega)).trans h2⟩
theorem part_at {f : AT.An → AT.An} {l : List AT.An} {i : Nat} {z : AT.An} (hz : l[i]? = some z) : ((l.take i).map f ++ l.drop i)[i]? = some z ∧ ((l.take i).map f ++ l.drop i).length = l.length := by
  have hi := (List.getElem?_eq_some_iff.1 hz).1
  have hl : ((l.take i).map f).length = i := by rw [List.length_map, List.length_take]; omega
  refine ⟨?_, by rw [List.length_append, hl, List.length_drop]; omega⟩
  rw [List.getElem?_append_right (by omega), hl, Nat.sub_self, List.getElem?_drop, Nat.add_zero]
  exact hz
theorem part_set {f : AT.An → AT.An} {l : List AT.An} {i : Nat} {z : AT.An} (hz : l[i]? = some z) : ((l.take i).map f ++ l.drop i).set i (f z) = (l.take (i + 1)).map f ++ l.drop (i + 1) := by
  have hi := (List.getElem?_eq_some_iff.1 hz).1
  have hl : ((l.take i).map f).length = i := by rw [List.length_map, List.length_take]; omega
  rw [List.set_append_right _ _ (by omega), hl, Nat.sub_self, List.drop_eq_getElem_cons hi, List.set_cons_zero, List.take_add_one, hz, List.map_append, List.append_assoc]
  rfl
theorem part_same {f : AT.An → AT.An} {l : List AT.An} {i : Nat} {z : AT.An} (hz : l[i]? = some z) (hf : f z = z) : (l.take i).map f ++ l.drop i = (l.take (i + 1)).map f ++ l.drop (i + 1) := by
  rw [← part_set hz, hf]
  have := (part_at (f := f) hz).1
  have h2 := List.getElem?_eq_some_iff.1 this
  rw [← h2.2, List.set_getElem_self]
end Go.Proofs.Ytpmmincophaaiaa
