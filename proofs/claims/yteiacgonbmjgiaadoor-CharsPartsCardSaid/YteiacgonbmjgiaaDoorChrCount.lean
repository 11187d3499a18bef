/- Plain facts on the lists of characters of the scripts: they rise, and each character is in just one of them, once. No conditions. -/
import Derived.Test.YteiacgonbmjgiaaDoorChrIs
namespace Go.Proofs.YteiacgonbmjgiaaDoor.FC
theorem codes_mem {s x : Int} : x ∈ codes s ↔ (0 ≤ x ∧ x < 256) ∧ scr x = s := by
  unfold codes upto
  simp only [List.mem_filter, List.mem_map, List.mem_range, decide_eq_true_eq]
  constructor
  · rintro ⟨⟨n, hn, rfl⟩, h⟩; exact ⟨by omega, h⟩
  · rintro ⟨h0, h⟩; exact ⟨⟨x.toNat, by omega, by omega⟩, h⟩
theorem codes_sorted (s : Int) : (codes s).Pairwise (· < ·) := by
  unfold codes upto
  refine List.Pairwise.filter _ ?_
  rw [List.pairwise_map]
  exact (List.pairwise_lt_range).imp (by intro a b h; omega)
theorem codes_lt {s : Int} {j : Nat} (h : j + 1 < (codes s).length) : (codes s).getD j 0 < (codes s).getD (j + 1) 0 := by
  have := List.pairwise_iff_getElem.1 (codes_sorted s) j (j + 1) (by omega) h (by omega)
  simpa [List.getD, List.getElem?_eq_getElem h, List.getElem?_eq_getElem (show j < (codes s).length by omega)] using this
theorem codes_at {s : Int} {j : Nat} (h : j < (codes s).length) : scr ((codes s).getD j 0) = s := by
  have : (codes s).getD j 0 ∈ codes s := by
    simp [List.getD, List.getElem?_eq_getElem h]
  exact (codes_mem.1 this).2
theorem count_le_one (l : List Int) (h : l.Pairwise (· < ·)) (x : Int) : l.count x = if x ∈ l then 1 else 0 := by
  induction l with
  | nil => simp
  | cons a l ih =>
    obtain ⟨h1, h2⟩ := List.pairwise_cons.1 h
    rw [List.count_cons, ih h2]
    by_cases e : a = x
    · subst e
      have hn : a ∉ l := fun hm => by have := h1 a hm; omega
      simp [hn]
    · have : (a == x) = false := by simp [e]
      simp [this, Ne.symm e]
/-- How often a number was met in the lists of the scripts below s. -/
def tot (x s : Int) : Int := if (0 ≤ x ∧ x < 256) ∧ scr x < s then 1 else 0
theorem tot_low {x : Int} : tot x (-1) = 0 := by
  unfold tot
  have := (props x).2.1.1
  rw [if_neg (by omega)]
theorem tot_high {x : Int} : tot x 5 = if 0 ≤ x ∧ x < 256 then 1 else 0 := by
  unfold tot
  have := (props x).2.1.2
  by_cases h : 0 ≤ x ∧ x < 256
  · rw [if_pos h, if_pos ⟨h, by omega⟩]
  · rw [if_neg h, if_neg (fun k => h k.1)]
theorem tot_succ (x s : Int) : tot x (s + 1) = tot x s + ((codes s).count x : Nat) := by
  rw [count_le_one _ (codes_sorted s)]
  unfold tot
  simp only [codes_mem]
  by_cases h : 0 ≤ x ∧ x < 256
  · by_cases h1 : scr x < s
    · rw [if_pos ⟨h, by omega⟩, if_pos ⟨h, h1⟩, if_neg (by omega)]; rfl
    · by_cases h2 : scr x = s
      · rw [if_pos ⟨h, by omega⟩, if_neg (by omega), if_pos ⟨h, h2⟩]; rfl
      · rw [if_neg (by omega), if_neg (by omega), if_neg (by omega)]; rfl
  · rw [if_neg (fun k => h k.1), if_neg (fun k => h k.1), if_neg (fun k => h k.1)]; rfl
theorem tot_bd (x s : Int) : 0 ≤ tot x s ∧ tot x s ≤ 1 := by unfold tot; split <;> omega
/-- .. and in the first j of a list besides. -/
def met (l : List Int) (x : Int) (j : Nat) : Int := ((l.take j).count x : Nat)
theorem met_0 (l : List Int) (x : Int) : met l x 0 = 0 := by simp [met]
theorem met_all (l : List Int) (x : Int) : met l x l.length = (l.count x : Nat) := by simp [met]
theorem met_yes {l : List Int} {x : Int} {j : Nat} (hj : j < l.length) (h : l.getD j 0 = x) : met l x (j + 1) = met l x j + 1 := by
  unfold met
  have e : l[j] = x := by simpa [List.getD, List.getElem?_eq_getElem hj] using h
  rw [List.take_add_one, List.getElem?_eq_getElem hj, List.count_append]
  simp [e]
theorem met_no {l : List Int} {x : Int} {j : Nat} (hj : j < l.length) (h : ¬ l.getD j 0 = x) : met l x (j + 1) = met l x j := by
  unfold met
  have e : ¬ l[j] = x := by simpa [List.getD, List.getElem?_eq_getElem hj] using h
  rw [List.take_add_one, List.getElem?_eq_getElem hj, List.count_append]
  simp [e]
theorem met_bd (l : List Int) (x : Int) (j : Nat) : 0 ≤ met l x j ∧ met l x j ≤ j := by
  unfold met
  have := List.count_le_length (a := x) (l := l.take j)
  have := List.length_take_le j l
  omega
end Go.Proofs.YteiacgonbmjgiaaDoor.FC
