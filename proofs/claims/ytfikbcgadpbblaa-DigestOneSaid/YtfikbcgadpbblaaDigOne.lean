/- Plain facts: two strings that differ in one byte have different digests. No conditions. -/
import Derived.Test.YtfikbcgadpbblaaDigPlain
namespace Go.Proofs.Ytfikbcgadpbblaa.DG
theorem mul_inj {M k : Nat} (hc : Nat.Coprime M k) : ∀ {x y n : Nat}, x < M → y < M → x ≤ y → (k * x + n + 1) % M = (k * y + n + 1) % M → x = y := by
  intro x y n hx hy hxy h
  have h1 : M ∣ (k * y + n + 1) - (k * x + n + 1) := Nat.dvd_of_mod_eq_zero (Nat.sub_mod_eq_zero_of_mod_eq h.symm)
  have h0 := Nat.mul_le_mul_left k hxy
  have h2 : (k * y + n + 1) - (k * x + n + 1) = k * (y - x) := by rw [Nat.mul_sub]; omega
  rw [h2] at h1
  have h3 := Nat.Coprime.dvd_of_dvd_mul_left hc h1
  rcases Nat.eq_zero_or_pos (y - x) with h0 | h0
  · omega
  · have := Nat.le_of_dvd h0 h3
    omega
theorem fx_inj {x y : Nat} {c : UInt8} (hx : x < 2147483647) (hy : y < 2147483647) (h : fx x c = fx y c) : x = y := by
  unfold fx at h
  rcases Nat.le_total x y with hl | hl
  · exact mul_inj (by decide) hx hy hl h
  · exact (mul_inj (by decide) hy hx hl h.symm).symm
theorem fx_ne {x : Nat} {c d : UInt8} (h : c ≠ d) : fx x c ≠ fx x d := by
  intro e
  unfold fx at e
  have h1 := c.toNat_lt
  have h2 := d.toNat_lt
  have : c.toNat ≠ d.toNat := fun e => h (UInt8.toNat_inj.1 e)
  omega
theorem fold_inj : ∀ (r : List UInt8) {x y : Nat}, x < 2147483647 → y < 2147483647 → r.foldl fx x = r.foldl fx y → x = y
  | [], _, _, _, _, h => h
  | c :: r, x, y, hx, hy, h => fx_inj hx hy (fold_inj r (Nat.mod_lt _ (by decide)) (Nat.mod_lt _ (by decide)) h)
/-- One byte is another one. -/
theorem X_ne (p r : List UInt8) {c d : UInt8} (h : c ≠ d) : X (p ++ c :: r) ≠ X (p ++ d :: r) := by
  intro e
  unfold X at e
  rw [List.foldl_append, List.foldl_append, List.foldl_cons, List.foldl_cons] at e
  exact fx_ne h (fold_inj r (Nat.mod_lt _ (by decide)) (Nat.mod_lt _ (by decide)) e)
theorem b4_inj {n m : Nat} (hn : n < 4294967296) (hm : m < 4294967296) (h : b4 n = b4 m) : n = m := by
  unfold b4 at h
  simp only [List.cons.injEq, ← UInt8.toNat_inj, UInt8.toNat_ofNat', and_true] at h
  omega
theorem dig_ne (p r : List UInt8) {c d : UInt8} (h : c ≠ d) : dig (p ++ c :: r) ≠ dig (p ++ d :: r) := by
  intro e
  unfold dig at e
  have h1 := (List.append_inj e rfl).1
  exact X_ne p r h (b4_inj (by have := X_lt (p ++ c :: r); omega) (by have := X_lt (p ++ d :: r); omega) h1)
end Go.Proofs.Ytfikbcgadpbblaa.DG
