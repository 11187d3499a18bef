/- Plain arithmetic of the parts of a number: they keep the order, lie between 0 and 64 times the number, and parts by fractions that add up to 1 add up, or are one more. -/
import Derived.Test.YtbfahfkommcpkaaFixTimes
import Derived.Test.YtbfahfkommcpkaaFixNearPlain
namespace Go.Proofs.Ytbfahfkommcpkaa.FP
theorem rnd_exact (k d : Int) (hd : 1 ≤ d) : rnd (k * d) d = k := by
  have h := parts_of (k * d) d k 0 hd (by rw [Int.mul_comm]; omega) (by omega) (by omega)
  unfold rnd; rw [h.1, h.2, if_neg (by omega)]
theorem rnd_sum (m n d : Int) (hd : 1 ≤ d) : 0 ≤ rnd (m * n) d + rnd (m * (d - n)) d - m ∧ rnd (m * n) d + rnd (m * (d - n)) d - m ≤ 1 := by
  have hm := Int.mul_ediv_add_emod (m * n) d
  have h0 := Int.emod_nonneg (m * n) (show d ≠ 0 by omega)
  have h1 := Int.emod_lt_of_pos (m * n) (show 0 < d by omega)
  have e : m * (d - n) = m * d - m * n := Int.mul_sub _ _ _
  by_cases hr : (m * n) % d = 0
  · have h := parts_of (m * (d - n)) d (m - m * n / d) 0 hd (by rw [Int.mul_sub, e, Int.mul_comm d m]; omega) (by omega) (by omega)
    unfold rnd; rw [h.1, h.2, hr, if_neg (by omega), if_neg (by omega)]; omega
  · have h := parts_of (m * (d - n)) d (m - m * n / d - 1) (d - (m * n) % d) hd (by rw [Int.mul_sub, Int.mul_sub, e, Int.mul_comm d m]; omega) (by omega) (by omega)
    unfold rnd; rw [h.1, h.2]
    split <;> split <;> omega
theorem gc_self (d : Int) (hd : 1 ≤ d) : gc d d = d := by
  unfold gc; rw [Nat.gcd_self]; omega
theorem gc_other (n d : Int) (h0 : 0 ≤ n) (h1 : n ≤ d) : gc (d - n) d = gc n d := by
  unfold gc
  obtain ⟨a, rfl⟩ := Int.eq_ofNat_of_zero_le h0
  obtain ⟨b, rfl⟩ := Int.eq_ofNat_of_zero_le (show 0 ≤ d by omega)
  obtain ⟨c, rfl⟩ : ∃ c, b = c + a := ⟨b - a, by omega⟩
  have : (((c + a : Nat) : Int) - (a : Int)).toNat = c := by omega
  rw [this]; simp only [Int.toNat_natCast]
  rw [Nat.gcd_self_add_right, Nat.gcd_add_self_right, Nat.gcd_comm]
theorem rgt_other (n d : Int) (h : rgt n d) : rgt (d - n) d := by
  obtain ⟨h1, h2, h3, h4, h5⟩ := h
  exact ⟨h1, h2, by omega, by omega, by rw [gc_other n d h3 h4]; exact h5⟩
theorem rgt_one (n d : Int) (h : rgt n d) (e : d - n = 0) : d = 1 := by
  obtain ⟨h1, h2, h3, h4, h5⟩ := h
  have : n = d := by omega
  subst this
  rw [gc_self n h1] at h5; exact h5
/-- What the chapter says of the parts of two numbers, the first not greater than the second. -/
theorem parts_all (a b n d : Int) (hab : a ≤ b) (h : rgt n d) :
    rnd (64 * a * n) d ≤ rnd (64 * b * n) d ∧ min 0 (64 * a) ≤ rnd (64 * a * n) d ∧ rnd (64 * a * n) d ≤ max 0 (64 * a) ∧
    0 ≤ rnd (64 * a * n) d + rnd (64 * a * (d - n)) d - 64 * a ∧ rnd (64 * a * n) d + rnd (64 * a * (d - n)) d - 64 * a ≤ 1 := by
  obtain ⟨h1, h2, h3, h4, h5⟩ := h
  obtain ⟨s0, s1⟩ := rnd_sum (64 * a) n d h1
  have m1 : 64 * a * n ≤ 64 * b * n := Int.mul_le_mul_of_nonneg_right (by omega) h3
  have z : rnd 0 d = 0 := by have := rnd_exact 0 d h1; simpa using this
  have f : rnd (64 * a * d) d = 64 * a := rnd_exact (64 * a) d h1
  refine ⟨rnd_mono _ _ _ h1 m1, ?_, ?_, s0, s1⟩
  · rcases Int.le_total 0 a with p | p
    · have := rnd_mono 0 (64 * a * n) d h1 (Int.mul_nonneg (by omega) h3); omega
    · have := rnd_mono (64 * a * d) (64 * a * n) d h1 (Int.mul_le_mul_of_nonpos_left (by omega) h4); omega
  · rcases Int.le_total 0 a with p | p
    · have := rnd_mono (64 * a * n) (64 * a * d) d h1 (Int.mul_le_mul_of_nonneg_left h4 (by omega)); omega
    · have := rnd_mono (64 * a * n) 0 d h1 (Int.mul_nonpos_of_nonpos_of_nonneg (by omega) h3); omega
end Go.Proofs.Ytbfahfkommcpkaa.FP
