/- Plain arithmetic of scalars: products do not depend on the order. -/
import Derived.Test.YtbjikilhfnbniaaFixTimes
namespace Go.Proofs.Ytbjikilhfnbniaa.FP
/-- Two fractions in lowest terms of one value are one. -/
theorem low_unique (p q r s : Int) (hp : 0 ≤ p) (hq : 1 ≤ q) (hr : 0 ≤ r) (hs : 1 ≤ s) (g1 : gc p q = 1) (g2 : gc r s = 1) (h : p * s = r * q) : p = r ∧ q = s := by
  obtain ⟨a, rfl⟩ := Int.eq_ofNat_of_zero_le hp
  obtain ⟨b, rfl⟩ := Int.eq_ofNat_of_zero_le (show 0 ≤ q by omega)
  obtain ⟨c, rfl⟩ := Int.eq_ofNat_of_zero_le hr
  obtain ⟨d, rfl⟩ := Int.eq_ofNat_of_zero_le (show 0 ≤ s by omega)
  have e : a * d = c * b := by exact_mod_cast h
  have c1 : Nat.Coprime b a := by
    have : Nat.gcd a b = 1 := by unfold gc at g1; simp only [Int.toNat_natCast] at g1; omega
    show Nat.gcd b a = 1; rw [Nat.gcd_comm]; exact this
  have c2 : Nat.Coprime d c := by
    have : Nat.gcd c d = 1 := by unfold gc at g2; simp only [Int.toNat_natCast] at g2; omega
    show Nat.gcd d c = 1; rw [Nat.gcd_comm]; exact this
  have d1 : b ∣ d := c1.dvd_of_dvd_mul_left (by rw [e]; exact Nat.dvd_mul_left b c)
  have d2 : d ∣ b := c2.dvd_of_dvd_mul_left (by rw [← e]; exact Nat.dvd_mul_left d a)
  have hbd : b = d := Nat.dvd_antisymm d1 d2
  subst hbd
  have : a = c := Nat.eq_of_mul_eq_mul_right (by omega) e
  omega
/-- The product of two right scalars with small denominators. -/
theorem times_ok (an ad bn bd : Int) (ha : rgt an ad) (hb : rgt bn bd) (h : ad * bd ≤ 262144) :
    ∃ p q : Int, timesS an ad bn bd = ((p, q), true) ∧ rgt p q ∧ q ≤ ad * bd ∧ p * (ad * bd) = an * bn * q := by
  obtain ⟨m0, m1, m2, _⟩ := rgt_mul an ad bn bd ha hb
  obtain ⟨g1, g2, g3, g4, g5, g6, g7, g8, g9, g10⟩ := gc_parts _ _ m0 m1 m2
  refine ⟨_, _, if_pos ⟨⟨ha, hb⟩, by omega⟩, ⟨g5, by omega, g3, g4, g7⟩, g6, ?_⟩
  generalize an * bn / gc (an * bn) (ad * bd) = P at *
  generalize ad * bd / gc (an * bn) (ad * bd) = Q at *
  generalize gc (an * bn) (ad * bd) = G at *
  rw [← g9, ← g10]
  rw [Int.mul_comm Q G, ← Int.mul_assoc, Int.mul_right_comm P G Q]
theorem times_comm (an ad bn bd : Int) : timesS an ad bn bd = timesS bn bd an ad := by
  unfold timesS
  rw [Int.mul_comm an bn, Int.mul_comm ad bd]
  by_cases h : (rgt an ad ∧ rgt bn bd) ∧ bd * ad / gc (bn * an) (bd * ad) ≤ 262144
  · rw [if_pos h, if_pos ⟨⟨h.1.2, h.1.1⟩, h.2⟩]
  · rw [if_neg h, if_neg (fun k => h ⟨⟨k.1.2, k.1.1⟩, k.2⟩)]
theorem times_one (n d : Int) (h : rgt n d) : timesS n d 1 1 = ((n, d), true) := by
  have h1 : rgt 1 1 := by decide +kernel
  unfold timesS
  rw [Int.mul_one, Int.mul_one, h.g, Int.ediv_one, Int.ediv_one, if_pos ⟨⟨h, h1⟩, h.d2⟩]
theorem times_zero (n d : Int) (h : rgt n d) : timesS n d 0 1 = ((0, 1), true) := by
  have h1 : rgt 0 1 := by decide +kernel
  have g : gc 0 d = d := by
    unfold gc
    have := h.d1
    obtain ⟨a, rfl⟩ := Int.eq_ofNat_of_zero_le (show 0 ≤ d by omega)
    simp
  unfold timesS
  rw [Int.mul_zero, Int.mul_one, g, Int.ediv_self (by have := h.d1; omega), Int.zero_ediv, if_pos ⟨⟨h, h1⟩, by omega⟩]
theorem times_assoc (n0 d0 n1 d1 n2 d2 : Int) (h0 : rgt n0 d0) (h1 : rgt n1 d1) (h2 : rgt n2 d2) (k0 : d0 ≤ 64) (k1 : d1 ≤ 64) (k2 : d2 ≤ 64) :
    ∃ p q r s u v : Int, timesS n0 d0 n1 d1 = ((p, q), true) ∧ timesS n1 d1 n0 d0 = ((p, q), true) ∧ timesS n1 d1 n2 d2 = ((r, s), true) ∧ timesS p q n2 d2 = ((u, v), true) ∧ timesS n0 d0 r s = ((u, v), true) ∧
      rgt p q ∧ q ≤ 4096 ∧ u ≤ v ∧ p * (d0 * d1) = n0 * n1 * q := by
  have b01 : d0 * d1 ≤ 64 * 64 := Int.mul_le_mul k0 k1 (by have := h1.d1; omega) (by omega)
  have b12 : d1 * d2 ≤ 64 * 64 := Int.mul_le_mul k1 k2 (by have := h2.d1; omega) (by omega)
  obtain ⟨p, q, e1, hr1, l1, f1⟩ := times_ok n0 d0 n1 d1 h0 h1 (by omega)
  obtain ⟨r, s, e2, hr2, l2, f2⟩ := times_ok n1 d1 n2 d2 h1 h2 (by omega)
  have bq : q * d2 ≤ 4096 * 64 := Int.mul_le_mul (by omega) k2 (by have := h2.d1; omega) (by omega)
  have bs : d0 * s ≤ 64 * 4096 := Int.mul_le_mul k0 (by omega) (by have := hr2.d1; omega) (by omega)
  obtain ⟨u, v, e3, hr3, l3, f3⟩ := times_ok p q n2 d2 hr1 h2 (by omega)
  obtain ⟨u', v', e4, hr4, l4, f4⟩ := times_ok n0 d0 r s h0 hr2 (by omega)
  have key : u * v' = u' * v := by
    have hq : q ≠ 0 := by have := hr1.d1; omega
    have hs : s ≠ 0 := by have := hr2.d1; omega
    have hd0 : d0 ≠ 0 := by have := h0.d1; omega
    have hd1 : d1 ≠ 0 := by have := h1.d1; omega
    have hd2 : d2 ≠ 0 := by have := h2.d1; omega
    have x1 : u * (d0 * d1 * d2) = n0 * n1 * n2 * v := Int.eq_of_mul_eq_mul_left hq (by grind)
    have x2 : u' * (d0 * d1 * d2) = n0 * n1 * n2 * v' := Int.eq_of_mul_eq_mul_left hs (by grind)
    have hD : d0 * d1 * d2 ≠ 0 := Int.mul_ne_zero (Int.mul_ne_zero hd0 hd1) hd2
    exact Int.eq_of_mul_eq_mul_left hD (by grind)
  obtain ⟨eu, ev⟩ := low_unique u v u' v' hr3.n0 hr3.d1 hr4.n0 hr4.d1 hr3.g hr4.g key
  subst eu ev
  exact ⟨p, q, r, s, u, v, e1, by rw [times_comm]; exact e1, e2, e3, e4, hr1, by omega, hr3.nd, f1⟩
end Go.Proofs.Ytbjikilhfnbniaa.FP
