/- Plain facts: the numbers of the elements of a line. No conditions. -/
import Derived.Test.YtcocnmpnbolpmaaDoorBrkSum
namespace Go.Proofs.YtcocnmpnbolpmaaDoor.BP
theorem Fl.line {E : El} {n : Nat} {w : Int} {pre : List Int} {line : Nat} (hE : ∀ k, 0 ≤ E.w k) (h : Fl E n w pre line) (hl : pre.length < n) :
    ∃ e : Nat, Ends E n w pre.length e ∧ (∀ j, pre.length ≤ j → j ≤ e → (fills E n w).getD j 0 = (line : Int)) ∧ (e + 1 < n → (fills E n w).getD (e + 1) 0 = (line : Int) + 1) ∧ Fl E n w (pre ++ List.replicate (e + 1 - pre.length) (line : Int)) (line + 1) := by
  obtain ⟨e, he, hends⟩ := fin_ends (w := w) hE hl
  have hle := hends.le
  have hnx := h.next hl
  rw [he, Int.toNat_natCast] at hnx
  have hlen : (pre ++ List.replicate (e + 1 - pre.length) (line : Int)).length = e + 1 := by rw [List.length_append, List.length_replicate]; omega
  refine ⟨e, hends, fun j a b => ?_, fun hn => ?_, hnx⟩
  · obtain ⟨_, g, _, e1⟩ := hnx
    rw [e1]
    simp only [List.getD]
    rw [List.getElem?_append_left (by rw [hlen]; omega), List.getElem?_append_right a, List.getElem?_replicate, if_pos (by omega)]; rfl
  · have hn2 := hnx
    obtain ⟨_, g, hg, e1⟩ := hnx
    rw [hlen] at e1 hg
    rw [e1]
    simp only [List.getD]
    rw [List.getElem?_append_right (by rw [hlen]; exact Nat.le_refl _), hlen, Nat.sub_self]
    cases g with
    | zero => omega
    | succ g =>
      have hb := fin_bd (E := E) (width := w) hn
      rw [fill, if_pos hn, List.getElem?_append_left (by rw [List.length_replicate]; omega), List.getElem?_replicate, if_pos (by omega)]
      simp
end Go.Proofs.YtcocnmpnbolpmaaDoor.BP
