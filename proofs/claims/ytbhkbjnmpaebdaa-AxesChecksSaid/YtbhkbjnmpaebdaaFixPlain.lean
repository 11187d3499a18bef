/- Plain arithmetic of rounding and of scalars: no program in sight. No conditions. -/
import Derived.WalkKit
namespace Go.Proofs.Ytbhkbjnmpaebdaa.F.FP

/-- n / d rounded to the nearest number, of two to the greater one. -/
def rnd (n d : Int) : Int := if d - n % d ≤ n % d then n / d + 1 else n / d
/-- n / d rounded up. -/
def upw (n d : Int) : Int := if 0 < n % d then n / d + 1 else n / d

theorem parts_of (n d q r : Int) (hd : 1 ≤ d) (h : r + d * q = n) (h0 : 0 ≤ r) (h1 : r < d) : n / d = q ∧ n % d = r :=
  (Int.ediv_emod_unique (by omega)).2 ⟨h, h0, h1⟩

theorem tparts (n d : Int) (hn : n < 0) (_hd : 1 ≤ d) : n.tdiv d = -((-n) / d) ∧ n.tmod d = -((-n) % d) := by
  have e : n = -(-n) := by omega
  constructor
  · rw [e, Int.neg_tdiv, Int.tdiv_eq_ediv_of_nonneg (by omega)]; simp
  · rw [e, Int.neg_tmod, Int.tmod_eq_emod_of_nonneg (by omega)]; simp

/-- Go's quotient and remainder of a negative number, against those that are rounded down. -/
theorem neg_zero (n d : Int) (hn : n < 0) (hd : 1 ≤ d) (h : n.tmod d = 0) : n / d = n.tdiv d ∧ n % d = 0 := by
  obtain ⟨a, b⟩ := tparts n d hn hd
  have hm := Int.mul_ediv_add_emod (-n) d
  refine parts_of n d _ _ hd ?_ (by omega) (by omega)
  rw [a, Int.mul_neg]; omega

theorem neg_less (n d : Int) (hn : n < 0) (hd : 1 ≤ d) (h : n.tmod d < 0) : n / d = n.tdiv d - 1 ∧ n % d = n.tmod d + d := by
  obtain ⟨a, b⟩ := tparts n d hn hd
  have hm := Int.mul_ediv_add_emod (-n) d
  have hl := Int.emod_lt_of_pos (-n) (show 0 < d by omega)
  refine parts_of n d _ _ hd ?_ (by omega) (by omega)
  rw [a, b, Int.mul_sub, Int.mul_neg]; omega

theorem tmod_bd (n d : Int) (hd : 1 ≤ d) : -d < n.tmod d ∧ n.tmod d < d ∧ (n < 0 → n.tmod d ≤ 0) ∧ (0 ≤ n → 0 ≤ n.tmod d) := by
  by_cases hn : n < 0
  · obtain ⟨_, b⟩ := tparts n d hn hd
    have hl := Int.emod_lt_of_pos (-n) (show 0 < d by omega)
    have hg := Int.emod_nonneg (-n) (show d ≠ 0 by omega)
    omega
  · have e : n.tmod d = n % d := Int.tmod_eq_emod_of_nonneg (by omega)
    have hl := Int.emod_lt_of_pos n (show 0 < d by omega)
    have hg := Int.emod_nonneg n (show d ≠ 0 by omega)
    omega

theorem tdiv_bd (n d : Int) (hd : 1 ≤ d) (h0 : -9223372036854775808 ≤ n) (h1 : n ≤ 9223372036854775807) : -9223372036854775808 ≤ n.tdiv d ∧ n.tdiv d ≤ 9223372036854775807 ∧ (n < 0 → n.tmod d < 0 → -9223372036854775808 < n.tdiv d) := by
  by_cases hn : n < 0
  · obtain ⟨a, b⟩ := tparts n d hn hd
    have q0 : 0 ≤ (-n) / d := Int.ediv_nonneg (by omega) (by omega)
    have q1 : (-n) / d ≤ -n := Int.ediv_le_self _ (by omega)
    refine ⟨by omega, by omega, fun _ hr => ?_⟩
    have d2 : 2 ≤ d := by
      by_cases d1 : d = 1
      · subst d1; rw [b] at hr; have := Int.emod_one (-n); omega
      · omega
    have hm := Int.mul_ediv_add_emod (-n) d
    have h2 : 2 * ((-n) / d) ≤ d * ((-n) / d) := Int.mul_le_mul_of_nonneg_right d2 q0
    have hg := Int.emod_nonneg (-n) (show d ≠ 0 by omega)
    omega
  · have e : n.tdiv d = n / d := Int.tdiv_eq_ediv_of_nonneg (by omega)
    have q0 : 0 ≤ n / d := Int.ediv_nonneg (by omega) (by omega)
    have q1 : n / d ≤ n := Int.ediv_le_self _ (by omega)
    omega
end Go.Proofs.Ytbhkbjnmpaebdaa.F.FP
