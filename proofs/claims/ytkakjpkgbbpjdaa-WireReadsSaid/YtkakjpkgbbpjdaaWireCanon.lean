/- What is read as a number is the number's own code: so the reference's way of reading finds the same. Plain facts. -/
import Derived.Test.YtkakjpkgbbpjdaaWireBack
namespace Go.Proofs.Ytkakjpkgbbpjdaa.WP
open Go.RowKit

theorem E_stable : ∀ (f g x : Nat), x < 128 ^ (f + 1) → x < 128 ^ (g + 1) → E f x = E g x
  | 0, 0, _, _, _ => rfl
  | 0, g + 1, x, h, _ => by rw [E, E, if_pos (by simpa using h)]
  | f + 1, 0, x, _, h => by rw [E, E, if_pos (by simpa using h)]
  | f + 1, g + 1, x, h, h' => by
    rw [E, E]
    split
    · rfl
    · rw [E_stable f g (x / 128) (Nat.div_lt_of_lt_mul (by rw [Nat.pow_succ] at h; omega)) (Nat.div_lt_of_lt_mul (by rw [Nat.pow_succ] at h'; omega))]
theorem rd_canon : ∀ (l : List UInt8) (k acc c j : Nat), rd l k acc = some (c, j) → ∃ f x, x < 128 ^ (f + 1) ∧ c = acc + 2 ^ (7 * k) * x ∧ l.take (j - k) = E f x ∧ j = k + (E f x).length ∧ (k = 0 ∨ 0 < x)
  | [], _, _, _, _, h => by simp [rd] at h
  | b :: l, k, acc, c, j, h => by
    rw [rd] at h
    split at h
    · simp at h
    · split at h
      · rename_i hb
        split at h
        · rename_i h0
          simp only [Option.some.injEq, Prod.mk.injEq] at h
          obtain ⟨rfl, rfl⟩ := h
          have hm : b.toNat % 128 = b.toNat := Nat.mod_eq_of_lt hb
          rw [hm] at h0 ⊢
          exact ⟨0, b.toNat, by simpa using hb, rfl, by simp [E], by simp [E], h0.symm⟩
        · simp at h
      · rename_i hb
        obtain ⟨f, x, h1, h2, h3, h4, h5⟩ := rd_canon l (k + 1) _ c j h
        have hx : 0 < x := by omega
        have hbt := b.toNat_lt
        have e1 : (b.toNat % 128 + 128 * x) % 128 = b.toNat % 128 := by omega
        have e2 : (b.toNat % 128 + 128 * x) / 128 = x := by omega
        have eb : UInt8.ofNat (b.toNat % 128 + 128) = b := by
          apply UInt8.toNat_inj.1
          simp
          omega
        have eE : E (f + 1) (b.toNat % 128 + 128 * x) = b :: E f x := by
          rw [E, if_neg (by omega), e1, e2, eb]
        have hp : 2 ^ (7 * (k + 1)) = 2 ^ (7 * k) * 128 := by rw [Nat.mul_succ, Nat.pow_add]
        refine ⟨f + 1, b.toNat % 128 + 128 * x, ?_, ?_, ?_, ?_, Or.inr (by omega)⟩
        · rw [Nat.pow_succ]; omega
        · rw [h2, hp, Nat.mul_add, Nat.mul_assoc, Nat.add_assoc]
        · have hj : j - k = (j - (k + 1)) + 1 := by omega
          rw [hj, List.take_succ_cons, h3, eE]
        · rw [eE, List.length_cons]; omega
/-- What is read as c in j bytes: those bytes are the code of c. -/
theorem rd_enc_of {l : List UInt8} {c j : Nat} (h : rd l 0 0 = some (c, j)) : l.take j = enc c ∧ j = (enc c).length := by
  have hc := (rd_some l 0 0 c j (by decide) h).1
  obtain ⟨f, x, h1, h2, h3, h4, _⟩ := rd_canon l 0 0 c j h
  simp at h2
  subst h2
  have e : E f c = enc c := by rw [enc_E]; exact E_stable f 9 c h1 (Nat.lt_of_lt_of_le hc (by decide))
  rw [e] at h3 h4
  exact ⟨by simpa using h3, by omega⟩
/-- How many bytes stand before the first one below 128. -/
def lead : List UInt8 → Nat
  | [] => 0
  | b :: l => if b.toNat < 128 then 0 else lead l + 1
/-- The sum of the digits, as the reference makes it. -/
def hor : List UInt8 → Nat
  | [] => 0
  | b :: l => b.toNat % 128 + 128 * hor l
theorem hor_E : ∀ (f x : Nat), x < 128 ^ (f + 1) → hor (E f x) = x
  | 0, x, h => by
    have h' : x < 128 := by simpa using h
    have : (UInt8.ofNat x).toNat = x := by simp; omega
    rw [E, hor, hor, this]; omega
  | f + 1, x, h => by
    rw [E]
    split
    · rename_i h'
      have : (UInt8.ofNat x).toNat = x := by simp; omega
      rw [hor, hor, this]; omega
    · have : (UInt8.ofNat (x % 128 + 128)).toNat = x % 128 + 128 := by simp; omega
      rw [hor, hor_E f (x / 128) (Nat.div_lt_of_lt_mul (by rw [Nat.pow_succ] at h; omega)), this]; omega
theorem lead_E : ∀ (f x : Nat) (t : List UInt8), x < 128 ^ (f + 1) → lead (E f x ++ t) + 1 = (E f x).length
  | 0, x, t, h => by
    have h' : x < 128 := by simpa using h
    have : (UInt8.ofNat x).toNat = x := by simp; omega
    rw [E, List.singleton_append, lead, this, if_pos h']; rfl
  | f + 1, x, t, h => by
    rw [E]
    split
    · rename_i h'
      have : (UInt8.ofNat x).toNat = x := by simp; omega
      rw [List.singleton_append, lead, this, if_pos h']; rfl
    · have : (UInt8.ofNat (x % 128 + 128)).toNat = x % 128 + 128 := by simp; omega
      rw [List.cons_append, lead, this, if_neg (by omega), lead_E f (x / 128) t (Nat.div_lt_of_lt_mul (by rw [Nat.pow_succ] at h; omega)), List.length_cons]
theorem enc_lead {c : Nat} (t : List UInt8) (h : c < 18446744073709551616) : lead (enc c ++ t) + 1 = (enc c).length := by
  rw [enc_E]; exact lead_E 9 c t (Nat.lt_of_lt_of_le h (by decide))
theorem enc_hor {c : Nat} (h : c < 18446744073709551616) : hor (enc c) = c := by
  rw [enc_E]; exact hor_E 9 c (Nat.lt_of_lt_of_le h (by decide))
/-- The reference's way of reading a number: the bytes up to the first one below 128, if they are the code of the number that they say. -/
theorem rd_ref (l : List UInt8) : rd l 0 0 = if lead l < 10 ∧ lead l < l.length ∧ enc (hor (l.take (lead l + 1)) % 18446744073709551616) = l.take (lead l + 1) then some (hor (l.take (lead l + 1)) % 18446744073709551616, lead l + 1) else none := by
  split
  · rename_i h
    have h1 := rd_enc (l.drop (lead l + 1)) (Nat.mod_lt (hor (l.take (lead l + 1))) (by decide : 18446744073709551616 > 0))
    have hl : (l.take (lead l + 1)).length = lead l + 1 := by simp; omega
    rw [h.2.2, List.take_append_drop, hl] at h1
    exact h1
  · rename_i h
    cases hr : rd l 0 0 with
    | none => rfl
    | some v =>
      obtain ⟨c, j⟩ := v
      exfalso
      have hs := rd_some l 0 0 c j (by decide) hr
      obtain ⟨h1, h2⟩ := rd_enc_of hr
      have e : l = enc c ++ l.drop j := by rw [← h1, List.take_append_drop]
      have hj : lead l + 1 = j := by rw [h2]; conv => lhs; rw [e]
                                     exact enc_lead _ hs.1
      have h10 : j ≤ 10 := by rw [h2, enc_len]; have := nd_le c; omega
      rw [hj, h1, enc_hor hs.1, Nat.mod_eq_of_lt hs.1] at h
      exact h ⟨by omega, by omega, rfl⟩
end Go.Proofs.Ytkakjpkgbbpjdaa.WP
