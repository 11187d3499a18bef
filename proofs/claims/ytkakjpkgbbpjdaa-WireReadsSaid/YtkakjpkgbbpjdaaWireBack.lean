/- What was written is read again; and no code is the beginning of another one. Plain facts. -/
import Derived.Test.YtkakjpkgbbpjdaaWireElem
namespace Go.Proofs.Ytkakjpkgbbpjdaa.WP
open Go.RowKit

/-- The bytes of a code, by recursion. -/
def E : Nat → Nat → List UInt8
  | 0, c => [UInt8.ofNat c]
  | f + 1, c => if c < 128 then [UInt8.ofNat c] else UInt8.ofNat (c % 128 + 128) :: E f (c / 128)
theorem pre_cons (c k : Nat) : pre c (k + 1) = UInt8.ofNat (c % 128 + 128) :: pre (c / 128) k := by
  unfold pre
  rw [List.range_succ_eq_map]
  simp only [List.map_cons, List.map_map, Nat.pow_zero, Nat.div_one, List.cons.injEq, true_and]
  apply List.map_congr_left
  intro i _
  simp only [Function.comp]
  rw [Nat.div_div_eq_div_mul, Nat.mul_comm 128, ← Nat.pow_succ]
theorem E_eq : ∀ (f c : Nat), pre c (ndF f c) ++ [UInt8.ofNat (c / 128 ^ ndF f c)] = E f c
  | 0, c => by simp [ndF, E, pre]
  | f + 1, c => by
    unfold ndF E
    split
    · simp [pre]
    · rw [pre_cons, List.cons_append, ← E_eq f (c / 128), Nat.pow_succ, Nat.mul_comm, Nat.div_div_eq_div_mul]
theorem enc_E (c : Nat) : enc c = E 9 c := E_eq 9 c
theorem len7 : ∀ d : Fin 128, Lib.bitLen d.val ≤ 7 := by decide +kernel
theorem ge_len : ∀ d : Fin 128, d.val = 0 ∨ 2 ^ (Lib.bitLen d.val - 1) ≤ d.val := by decide +kernel
theorem len0 : Lib.bitLen 0 = 0 := by decide
theorem last_fits {c k : Nat} (hc : c < 128) (h : 2 ^ (7 * k) * c < 18446744073709551616) (h0 : k = 0 ∨ 0 < c) : 7 * k + Lib.bitLen c ≤ 64 := by
  rcases ge_len ⟨c, hc⟩ with e | e
  · simp only at e; subst e
    have : k = 0 := by omega
    subst this; rw [len0]; omega
  · simp only at e
    rcases Nat.lt_or_ge 64 (7 * k + Lib.bitLen c) with g | g
    · have h1 : 2 ^ (7 * k) * 2 ^ (Lib.bitLen c - 1) ≤ 2 ^ (7 * k) * c := Nat.mul_le_mul_left _ e
      rw [← Nat.pow_add] at h1
      have h2 : 2 ^ 64 ≤ 2 ^ (7 * k + (Lib.bitLen c - 1)) := Nat.pow_le_pow_right (by decide) (by omega)
      have h3 : (2 : Nat) ^ 64 = 18446744073709551616 := by decide
      omega
    · exact g
theorem more_fits {c k : Nat} (hc : 128 ≤ c) (h : 2 ^ (7 * k) * c < 18446744073709551616) : 7 * k + 7 < 64 := by
  rcases Nat.lt_or_ge (7 * k + 7) 64 with g | g
  · exact g
  · have h1 : 2 ^ (7 * k) * 2 ^ 7 ≤ 2 ^ (7 * k) * c := Nat.mul_le_mul_left _ (by simpa using hc)
    rw [← Nat.pow_add] at h1
    have h2 : 2 ^ 64 ≤ 2 ^ (7 * k + 7) := Nat.pow_le_pow_right (by decide) g
    have h3 : (2 : Nat) ^ 64 = 18446744073709551616 := by decide
    omega
theorem rd_last {c k acc : Nat} (t : List UInt8) (hc : c < 128) (h : 2 ^ (7 * k) * c < 18446744073709551616) (h0 : k = 0 ∨ 0 < c) : rd (UInt8.ofNat c :: t) k acc = some (acc + 2 ^ (7 * k) * c, k + 1) := by
  have e : (UInt8.ofNat c).toNat = c := by simp; omega
  have e2 : c % 128 = c := Nat.mod_eq_of_lt hc
  rw [rd, e, e2, if_neg (by have := last_fits hc h h0; omega), if_pos hc, if_pos (by omega)]
theorem rd_E : ∀ (f c k acc : Nat) (t : List UInt8), c < 128 ^ (f + 1) → 2 ^ (7 * k) * c < 18446744073709551616 → (k = 0 ∨ 0 < c) → rd (E f c ++ t) k acc = some (acc + 2 ^ (7 * k) * c, k + (E f c).length)
  | 0, c, k, acc, t, hc, h, h0 => by
    rw [E, List.singleton_append, rd_last t (by simpa using hc) h h0]; rfl
  | f + 1, c, k, acc, t, hc, h, h0 => by
    rw [E]
    split
    · rename_i hl; rw [List.singleton_append, rd_last t hl h h0]; rfl
    · rename_i hl
      have e : (UInt8.ofNat (c % 128 + 128)).toNat = c % 128 + 128 := by simp; omega
      have e2 : (c % 128 + 128) % 128 = c % 128 := by omega
      have hm := more_fits (by omega : 128 ≤ c) h
      have h7 := len7 ⟨c % 128, Nat.mod_lt _ (by decide)⟩
      simp only at h7
      have hp : 2 ^ (7 * (k + 1)) = 2 ^ (7 * k) * 128 := by rw [Nat.mul_succ, Nat.pow_add]
      have hs : 2 ^ (7 * k) * c = 2 ^ (7 * k) * (c % 128) + 2 ^ (7 * (k + 1)) * (c / 128) := by
        rw [hp, Nat.mul_assoc, ← Nat.mul_add]
        congr 1
        omega
      rw [List.cons_append, rd, e, e2, if_neg (by omega), if_neg (by omega), rd_E f (c / 128) (k + 1) _ t (Nat.div_lt_of_lt_mul (by rw [Nat.pow_succ] at hc; omega)) (by omega) (by omega)]
      simp only [List.length_cons]
      congr 2
      · omega
      · omega
theorem rd_enc {c : Nat} (t : List UInt8) (hc : c < 18446744073709551616) : rd (enc c ++ t) 0 0 = some (c, (enc c).length) := by
  rw [enc_E, rd_E 9 c 0 0 t (Nat.lt_of_lt_of_le hc (by decide)) (by simpa using hc) (Or.inl rfl)]
  simp
theorem int_read {r : RS} {n : Int} {t : List UInt8} (hb : r.bad = false) (h : r.s.drop r.p = int n ++ t) (h0 : -9223372036854775808 ≤ n) (h1 : n ≤ 9223372036854775807) : r.int = (n, { r with p := r.p + (int n).length }) := by
  unfold RS.int
  rw [if_neg (by simp [hb]), h]
  unfold int
  rw [rd_enc t (zz_lt h0 h1)]
  simp only [uz_zz]
theorem int_prefix {n m : Int} (n0 : -9223372036854775808 ≤ n) (n1 : n ≤ 9223372036854775807) (m0 : -9223372036854775808 ≤ m) (m1 : m ≤ 9223372036854775807) (hl : (int n).length ≤ (int m).length) (h : int n = (int m).take (int n).length) : n = m := by
  have e : int m = int n ++ (int m).drop (int n).length := by
    conv => lhs; rw [← List.take_append_drop (int n).length (int m), ← h]
  have h1 := rd_enc ((int m).drop (int n).length) (zz_lt n0 n1)
  have h2 := rd_enc [] (zz_lt m0 m1)
  rw [List.append_nil] at h2
  rw [show enc (zz n) = int n from rfl, ← e] at h1
  rw [show enc (zz m) = int m from rfl] at h2
  rw [h1] at h2
  have : zz n = zz m := by simp at h2; exact h2.1
  rw [← uz_zz n, this, uz_zz]
theorem int_len1 (n : Int) (n0 : -9223372036854775808 ≤ n) (n1 : n ≤ 9223372036854775807) : (int n).length = 1 ↔ (-64 ≤ n ∧ n ≤ 63) := by
  have hz := zz_lt n0 n1
  unfold int
  rw [enc_len]
  have h1 := nd_last hz
  constructor
  · intro h
    have : nd (zz n) = 0 := by omega
    rw [this] at h1
    simp at h1
    unfold zz at h1
    split at h1 <;> omega
  · intro h
    have : zz n < 128 := by unfold zz; split <;> omega
    have h2 : nd (zz n) = 0 := by unfold nd ndF; simp [this]
    omega
theorem int_pos (n : Int) : 0 < (int n).length := by unfold int; rw [enc_len]; omega
end Go.Proofs.Ytkakjpkgbbpjdaa.WP
