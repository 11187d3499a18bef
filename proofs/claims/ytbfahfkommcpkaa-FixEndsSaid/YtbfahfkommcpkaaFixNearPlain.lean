/- Plain arithmetic of rounding to the nearest number: it does not decrease, and lies at most a half away. -/
import Derived.Test.YtbfahfkommcpkaaFixPlain
namespace Go.Proofs.Ytbfahfkommcpkaa.FP
theorem rnd_eq (n d : Int) (hd : 1 ≤ d) : rnd n d = (2 * n + d) / (2 * d) := by
  have hm := Int.mul_ediv_add_emod n d
  have h0 := Int.emod_nonneg n (show d ≠ 0 by omega)
  have h1 := Int.emod_lt_of_pos n (show 0 < d by omega)
  unfold rnd
  by_cases h : d - n % d ≤ n % d
  · rw [if_pos h]
    refine (parts_of (2 * n + d) (2 * d) (n / d + 1) (2 * (n % d) - d) (by omega) ?_ (by omega) (by omega)).1.symm
    rw [Int.mul_add, Int.mul_assoc]; omega
  · rw [if_neg h]
    refine (parts_of (2 * n + d) (2 * d) (n / d) (2 * (n % d) + d) (by omega) ?_ (by omega) (by omega)).1.symm
    rw [Int.mul_assoc]; omega
theorem rnd_mono (n m d : Int) (hd : 1 ≤ d) (h : n ≤ m) : rnd n d ≤ rnd m d := by
  rw [rnd_eq n d hd, rnd_eq m d hd]
  exact Int.ediv_le_ediv (by omega) (by omega)
/-- All that the chapter says of the three roundings of n / d. -/
theorem near (n d : Int) (hd : 1 ≤ d) :
    n / d * d ≤ n ∧ n - n / d * d < d ∧ n ≤ upw n d * d ∧ upw n d * d - n < d ∧ 2 * (rnd n d * d - n) ≤ d ∧ -(2 * (rnd n d * d - n)) < d ∧ n / d ≤ rnd n d ∧ rnd n d ≤ upw n d ∧
    upw n d = -((-n) / d) ∧ ((upw n d = n / d) ∨ (upw n d ≠ n / d ∧ upw n d = n / d + 1)) := by
  have hm := Int.mul_ediv_add_emod n d
  have h0 := Int.emod_nonneg n (show d ≠ 0 by omega)
  have h1 := Int.emod_lt_of_pos n (show 0 < d by omega)
  have e1 : n / d * d = d * (n / d) := Int.mul_comm _ _
  have e2 : (n / d + 1) * d = d * (n / d) + d := by rw [Int.add_mul, Int.one_mul, Int.mul_comm]
  have hneg : (if 0 < n % d then n / d + 1 else n / d) = -((-n) / d) := by
    by_cases hr : 0 < n % d
    · rw [if_pos hr]
      have := (parts_of (-n) d (-(n / d) - 1) (d - n % d) hd (by rw [Int.mul_sub, Int.mul_neg]; omega) (by omega) (by omega)).1
      omega
    · rw [if_neg hr]
      have := (parts_of (-n) d (-(n / d)) 0 hd (by rw [Int.mul_neg]; omega) (by omega) (by omega)).1
      omega
  refine ⟨?_, ?_, ?_, ?_, ?_, ?_, ?_, ?_, hneg, ?_⟩
  all_goals (try simp only [rnd, upw])
  all_goals (try split) <;> (try split) <;> (try rw [e2]) <;> (try rw [e1]) <;> omega
end Go.Proofs.Ytbfahfkommcpkaa.FP
