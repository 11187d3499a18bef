/- Where a tent is more than nothing. No conditions. -/
import Derived.Test.YtbhkbjnmpaebdaaAxTo
namespace Go.Proofs.Ytbhkbjnmpaebdaa.AX
set_option linter.unusedVariables false
theorem fr_pos {a b : Int} (ha : 1 ≤ a) : 0 < (fr a b).1 := by
  obtain ⟨a, rfl⟩ := Int.eq_ofNat_of_zero_le (show 0 ≤ a by omega)
  have h1 : 0 < a := by omega
  unfold fr F.FP.gc
  simp only [Int.toNat_natCast]
  have hd := Nat.gcd_dvd_left a b.toNat
  have hp : 0 < Nat.gcd a b.toNat := Nat.gcd_pos_of_pos_left _ h1
  have := Nat.div_pos (Nat.le_of_dvd h1 hd) hp
  rw [← Int.natCast_ediv]
  omega
theorem str_pos {t : Tn} {n : Int} (ht : tent t = true) : 0 < (strength t n).1 ↔ (t.2.1 = 0 ∨ n = t.2.1 ∨ (t.1 < n ∧ n < t.2.2)) := by
  obtain ⟨f, p, q⟩ := t
  obtain ⟨-, -, t3, t4, -⟩ := (tent_iff _).1 ht
  simp only at t3 t4 ⊢
  unfold strength
  simp only
  by_cases k1 : p = 0 ∨ n = p
  · rw [if_pos k1]
    simp only
    omega
  · rw [if_neg k1]
    by_cases k2 : n ≤ f ∨ q ≤ n
    · rw [if_pos k2]
      simp only
      omega
    · rw [if_neg k2]
      by_cases k3 : n < p
      · rw [if_pos k3]
        have := fr_pos (a := n - f) (b := p - f) (by omega)
        omega
      · rw [if_neg k3]
        have := fr_pos (a := q - n) (b := q - p) (by omega)
        omega
theorem touch_iff {t : Tn} {x : Pr} (ht : tent t = true) (hx : x.1 ≤ x.2) : touch (t, x) = true ↔ ∃ n, x.1 ≤ n ∧ n ≤ x.2 ∧ 0 < (strength t n).1 := by
  obtain ⟨f, p, q⟩ := t
  obtain ⟨x1, x2⟩ := x
  unfold touch peakIn sideIn
  simp only at hx ⊢
  rw [Bool.or_eq_true, decide_eq_true_iff, decide_eq_true_iff]
  constructor
  · rintro (h | h)
    · rcases h with h | h
      · exact ⟨x1, by omega, hx, (str_pos ht).2 (.inl h)⟩
      · exact ⟨p, h.1, h.2, (str_pos ht).2 (.inr (.inl rfl))⟩
    · refine ⟨max x1 (f + 1), by omega, by omega, (str_pos ht).2 (.inr (.inr ?_))⟩
      simp only
      omega
  · rintro ⟨n, h1, h2, h3⟩
    have h4 := (str_pos ht).1 h3
    simp only at h4
    omega
end Go.Proofs.Ytbhkbjnmpaebdaa.AX
