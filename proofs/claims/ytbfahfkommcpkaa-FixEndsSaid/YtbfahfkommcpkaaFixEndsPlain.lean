/- Plain arithmetic of a line: it passes through its ends, and rises or falls as they say. -/
import Derived.Test.YtbfahfkommcpkaaFixOps
import Derived.Test.YtbfahfkommcpkaaFixPartsPlain
namespace Go.Proofs.Ytbfahfkommcpkaa.FP
theorem ends (f0 f1 t0 t1 p q : Int) (hf0 : sm f0) (hf1 : sm f1) (ht0 : sm t0) (ht1 : sm t1) (h : f0 < t0) (hp : f0 ≤ p) (hpq : p ≤ q) (hq : q ≤ t0) :
    ∃ x y : Int, lineS p f0 f1 t0 t1 = (x, true) ∧ lineS q f0 f1 t0 t1 = (y, true) ∧ lineS f0 f0 f1 t0 t1 = (f1, true) ∧ lineS t0 f0 f1 t0 t1 = (t1, true) ∧
      (f1 ≤ t1 → f1 ≤ x ∧ x ≤ y ∧ y ≤ t1) ∧ (t1 < f1 → x ≤ f1 ∧ y ≤ x ∧ t1 ≤ y) := by
  have sp : sm p := by unfold sm at *; omega
  have sq : sm q := by unfold sm at *; omega
  have hd : 1 ≤ t0 - f0 := by omega
  have L : ∀ z, sm z → f0 ≤ z → z ≤ t0 → lineS z f0 f1 t0 t1 = (rnd (f1 * (t0 - f0) + (t1 - f1) * (z - f0)) (t0 - f0), true) := fun z sz h1 h2 => if_pos ⟨⟨sz, hf0, hf1, ht0, ht1⟩, h, h1, h2⟩
  have ef : rnd (f1 * (t0 - f0) + (t1 - f1) * (f0 - f0)) (t0 - f0) = f1 := by
    rw [Int.sub_self, Int.mul_zero, Int.add_zero]; exact rnd_exact _ _ hd
  have et : rnd (f1 * (t0 - f0) + (t1 - f1) * (t0 - f0)) (t0 - f0) = t1 := by
    rw [← Int.add_mul, show f1 + (t1 - f1) = t1 by omega]; exact rnd_exact _ _ hd
  refine ⟨_, _, L p sp hp (by omega), L q sq (by omega) hq, by rw [L f0 hf0 (by omega) (by omega), ef], by rw [L t0 ht0 (by omega) (by omega), et], fun hr => ?_, fun hr => ?_⟩
  · have m : ∀ z u : Int, z ≤ u → f1 * (t0 - f0) + (t1 - f1) * (z - f0) ≤ f1 * (t0 - f0) + (t1 - f1) * (u - f0) := fun z u hz => by
      have := Int.mul_le_mul_of_nonneg_left (show z - f0 ≤ u - f0 by omega) (show 0 ≤ t1 - f1 by omega); omega
    have a := rnd_mono _ _ _ hd (m f0 p hp)
    have b := rnd_mono _ _ _ hd (m p q hpq)
    have c := rnd_mono _ _ _ hd (m q t0 hq)
    rw [ef] at a; rw [et] at c
    exact ⟨a, b, c⟩
  · have m : ∀ z u : Int, z ≤ u → f1 * (t0 - f0) + (t1 - f1) * (u - f0) ≤ f1 * (t0 - f0) + (t1 - f1) * (z - f0) := fun z u hz => by
      have := Int.mul_le_mul_of_nonpos_left (show t1 - f1 ≤ 0 by omega) (show z - f0 ≤ u - f0 by omega); omega
    have a := rnd_mono _ _ _ hd (m f0 p hp)
    have b := rnd_mono _ _ _ hd (m p q hpq)
    have c := rnd_mono _ _ _ hd (m q t0 hq)
    rw [ef] at a; rw [et] at c
    exact ⟨a, b, c⟩
end Go.Proofs.Ytbfahfkommcpkaa.FP
