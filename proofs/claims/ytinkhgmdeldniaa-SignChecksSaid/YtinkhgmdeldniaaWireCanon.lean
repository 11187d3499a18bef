/- Texts merged: WireBack, WireCanon. No conditions. -/
import Derived.Test.YtinkhgmdeldniaaWireElem
/- What was written is read again; and no code is the beginning of another one. Plain facts. -/
section
namespace Go.Proofs.Ytinkhgmdeldniaa.W.WP
open Go.RowKit

/-- The bytes of a code, by recursion. -/
def E : Nat → Nat → List UInt8
  | 0, c => [UInt8.ofNat c]
  | f + 1, c => if c < 128 then [UInt8.ofNat c] else UInt8.ofNat (c % 128 + 128) :: E f (c / 128)
theorem pre_cons (c k : Nat) : pre c (k + 1) = UInt8.ofNat (c % 128 + 128) :: pre (c / 128) k := by
  unfold pre
  rw [List.range_succ_eq_map]
  simp only [List.map_cons, List.map_map, Nat.pow_zero, Nat.div_one, List.cons.injEq, true_and]
  apply List.map_congr_left
  intro i _
  simp only [Function.comp]
  rw [Nat.div_div_eq_div_mul, Nat.mul_comm 128, ← Nat.pow_succ]
theorem E_eq : ∀ (f c : Nat), pre c (ndF f c) ++ [UInt8.ofNat (c / 128 ^ ndF f c)] = E f c
  | 0, c => by simp [ndF, E, pre]
  | f + 1, c => by
    unfold ndF E
    split
    · simp [pre]
    · rw [pre_cons, List.cons_append, ← E_eq f (c / 128), Nat.pow_succ, Nat.mul_comm, Nat.div_div_eq_div_mul]
theorem enc_E (c : Nat) : enc c = E 9 c := E_eq 9 c
theorem len7 : ∀ d : Fin 128, Lib.bitLen d.val ≤ 7 := by decide +kernel
theorem ge_len : ∀ d : Fin 128, d.val = 0 ∨ 2 ^ (Lib.bitLen d.val - 1) ≤ d.val := by decide +kernel
theorem len0 : Lib.bitLen 0 = 0 := by decide
theorem last_fits {c k : Nat} (hc : c < 128) (h : 2 ^ (7 * k) * c < 18446744073709551616) (h0 : k = 0 ∨ 0 < c) : 7 * k + Lib.bitLen c ≤ 64 := by
  rcases ge_len ⟨c, hc⟩ with e | e
  · simp only at e; subst e
    have : k = 0 := by omega
    subst this; rw [len0]; omega
  · simp only at e
    rcases Nat.lt_or_ge 64 (7 * k + Lib.bitLen c) with g | g
    · have h1 : 2 ^ (7 * k) * 2 ^ (Lib.bitLen c - 1) ≤ 2 ^ (7 * k) * c := Nat.mul_le_mul_left _ e
      rw [← Nat.pow_add] at h1
      have h2 : 2 ^ 64 ≤ 2 ^ (7 * k + (Lib.bitLen c - 1)) := Nat.pow_le_pow_right (by decide) (by omega)
      have h3 : (2 : Nat) ^ 64 = 18446744073709551616 := by decide
      omega
    · exact g
theorem more_fits {c k : Nat} (hc : 128 ≤ c) (h : 2 ^ (7 * k) * c < 18446744073709551616) : 7 * k + 7 < 64 := by
  rcases Nat.lt_or_ge (7 * k + 7) 64 with g | g
  · exact g
  · have h1 : 2 ^ (7 * k) * 2 ^ 7 ≤ 2 ^ (7 * k) * c := Nat.mul_le_mul_left _ (by simpa using hc)
    rw [← Nat.pow_add] at h1
    have h2 : 2 ^ 64 ≤ 2 ^ (7 * k + 7) := Nat.pow_le_pow_right (by decide) g
    have h3 : (2 : Nat) ^ 64 = 18446744073709551616 := by decide
    omega
theorem rd_last {c k acc : Nat} (t : List UInt8) (hc : c < 128) (h : 2 ^ (7 * k) * c < 18446744073709551616) (h0 : k = 0 ∨ 0 < c) : rd (UInt8.ofNat c :: t) k acc = some (acc + 2 ^ (7 * k) * c, k + 1) := by
  have e : (UInt8.ofNat c).toNat = c := by simp; omega
  have e2 : c % 128 = c := Nat.mod_eq_of_lt hc
  rw [rd, e, e2, if_neg (by have := last_fits hc h h0; omega), if_pos hc, if_pos (by omega)]
theorem rd_E : ∀ (f c k acc : Nat) (t : List UInt8), c < 128 ^ (f + 1) → 2 ^ (7 * k) * c < 18446744073709551616 → (k = 0 ∨ 0 < c) → rd (E f c ++ t) k acc = some (acc + 2 ^ (7 * k) * c, k + (E f c).length)
  | 0, c, k, acc, t, hc, h, h0 => by
    rw [E, List.singleton_append, rd_last t (by simpa using hc) h h0]; rfl
  | f + 1, c, k, acc, t, hc, h, h0 => by
    rw [E]
    split
    · rename_i hl; rw [List.singleton_append, rd_last t hl h h0]; rfl
    · rename_i hl
      have e : (UInt8.ofNat (c % 128 + 128)).toNat = c % 128 + 128 := by simp; omega
      have e2 : (c % 128 + 128) % 128 = c % 128 := by omega
      have hm := more_fits (by omega : 128 ≤ c) h
      have h7 := len7 ⟨c % 128, Nat.mod_lt _ (by decide)⟩
      simp only at h7
      have hp : 2 ^ (7 * (k + 1)) = 2 ^ (7 * k) * 128 := by rw [Nat.mul_succ, Nat.pow_add]
      have hs : 2 ^ (7 * k) * c = 2 ^ (7 * k) * (c % 128) + 2 ^ (7 * (k + 1)) * (c / 128) := by
        rw [hp, Nat.mul_assoc, ← Nat.mul_add]
        congr 1
        omega
      rw [List.cons_append, rd, e, e2, if_neg (by omega), if_neg (by omega), rd_E f (c / 128) (k + 1) _ t (Nat.div_lt_of_lt_mul (by rw [Nat.pow_succ] at hc; omega)) (by omega) (by omega)]
      simp only [List.length_cons]
      congr 2
      · omega
      · omega
theorem rd_enc {c : Nat} (t : List UInt8) (hc : c < 18446744073709551616) : rd (enc c ++ t) 0 0 = some (c, (enc c).length) := by
  rw [enc_E, rd_E 9 c 0 0 t (Nat.lt_of_lt_of_le hc (by decide)) (by simpa using hc) (Or.inl rfl)]
  simp
theorem int_read {r : RS} {n : Int} {t : List UInt8} (hb : r.bad = false) (h : r.s.drop r.p = int n ++ t) (h0 : -9223372036854775808 ≤ n) (h1 : n ≤ 9223372036854775807) : r.int = (n, { r with p := r.p + (int n).length }) := by
  unfold RS.int
  rw [if_neg (by simp [hb]), h]
  unfold int
  rw [rd_enc t (zz_lt h0 h1)]
  simp only [uz_zz]
theorem int_prefix {n m : Int} (n0 : -9223372036854775808 ≤ n) (n1 : n ≤ 9223372036854775807) (m0 : -9223372036854775808 ≤ m) (m1 : m ≤ 9223372036854775807) (hl : (int n).length ≤ (int m).length) (h : int n = (int m).take (int n).length) : n = m := by
  have e : int m = int n ++ (int m).drop (int n).length := by
    conv => lhs; rw [← List.take_append_drop (int n).length (int m), ← h]
  have h1 := rd_enc ((int m).drop (int n).length) (zz_lt n0 n1)
  have h2 := rd_enc [] (zz_lt m0 m1)
  rw [List.append_nil] at h2
  rw [show enc (zz n) = int n from rfl, ← e] at h1
  rw [show enc (zz m) = int m from rfl] at h2
  rw [h1] at h2
  have : zz n = zz m := by simp at h2; exact h2.1
  rw [← uz_zz n, this, uz_zz]
theorem int_len1 (n : Int) (n0 : -9223372036854775808 ≤ n) (n1 : n ≤ 9223372036854775807) : (int n).length = 1 ↔ (-64 ≤ n ∧ n ≤ 63) := by
  have hz := zz_lt n0 n1
  unfold int
  rw [enc_len]
  have h1 := nd_last hz
  constructor
  · intro h
    have : nd (zz n) = 0 := by omega
    rw [this] at h1
    simp at h1
    unfold zz at h1
    split at h1 <;> omega
  · intro h
    have : zz n < 128 := by unfold zz; split <;> omega
    have h2 : nd (zz n) = 0 := by unfold nd ndF; simp [this]
    omega
theorem int_pos (n : Int) : 0 < (int n).length := by unfold int; rw [enc_len]; omega
end Go.Proofs.Ytinkhgmdeldniaa.W.WP
end
/- What is read as a number is the number's own code: so the reference's way of reading finds the same. Plain facts. -/
section
namespace Go.Proofs.Ytinkhgmdeldniaa.W.WP
set_option maxRecDepth 100000
open Go.RowKit

theorem E_stable : ∀ (f g x : Nat), x < 128 ^ (f + 1) → x < 128 ^ (g + 1) → E f x = E g x
  | 0, 0, _, _, _ => rfl
  | 0, g + 1, x, h, _ => by rw [E, E, if_pos (by simpa using h)]
  | f + 1, 0, x, _, h => by rw [E, E, if_pos (by simpa using h)]
  | f + 1, g + 1, x, h, h' => by
    rw [E, E]
    split
    · rfl
    · rw [E_stable f g (x / 128) (Nat.div_lt_of_lt_mul (by rw [Nat.pow_succ] at h; omega)) (Nat.div_lt_of_lt_mul (by rw [Nat.pow_succ] at h'; omega))]
theorem rd_canon : ∀ (l : List UInt8) (k acc c j : Nat), rd l k acc = some (c, j) → ∃ f x, x < 128 ^ (f + 1) ∧ c = acc + 2 ^ (7 * k) * x ∧ l.take (j - k) = E f x ∧ j = k + (E f x).length ∧ (k = 0 ∨ 0 < x)
  | [], _, _, _, _, h => by simp [rd] at h
  | b :: l, k, acc, c, j, h => by
    rw [rd] at h
    split at h
    · simp at h
    · split at h
      · rename_i hb
        split at h
        · rename_i h0
          simp only [Option.some.injEq, Prod.mk.injEq] at h
          obtain ⟨rfl, rfl⟩ := h
          have hm : b.toNat % 128 = b.toNat := Nat.mod_eq_of_lt hb
          rw [hm] at h0 ⊢
          exact ⟨0, b.toNat, by simpa using hb, rfl, by simp [E], by simp [E], h0.symm⟩
        · simp at h
      · rename_i hb
        obtain ⟨f, x, h1, h2, h3, h4, h5⟩ := rd_canon l (k + 1) _ c j h
        have hx : 0 < x := by omega
        have hbt := b.toNat_lt
        have e1 : (b.toNat % 128 + 128 * x) % 128 = b.toNat % 128 := by omega
        have e2 : (b.toNat % 128 + 128 * x) / 128 = x := by omega
        have eb : UInt8.ofNat (b.toNat % 128 + 128) = b := by
          apply UInt8.toNat_inj.1
          simp
          omega
        have eE : E (f + 1) (b.toNat % 128 + 128 * x) = b :: E f x := by
          rw [E, if_neg (by omega), e1, e2, eb]
        have hp : 2 ^ (7 * (k + 1)) = 2 ^ (7 * k) * 128 := by rw [Nat.mul_succ, Nat.pow_add]
        refine ⟨f + 1, b.toNat % 128 + 128 * x, ?_, ?_, ?_, ?_, Or.inr (by omega)⟩
        · rw [Nat.pow_succ]; omega
        · rw [h2, hp, Nat.mul_add, Nat.mul_assoc, Nat.add_assoc]
        · have hj : j - k = (j - (k + 1)) + 1 := by omega
          rw [hj, List.take_succ_cons, h3, eE]
        · rw [eE, List.length_cons]; omega
/-- What is read as c in j bytes: those bytes are the code of c. -/
theorem rd_enc_of {l : List UInt8} {c j : Nat} (h : rd l 0 0 = some (c, j)) : l.take j = enc c ∧ j = (enc c).length := by
  have hc := (rd_some l 0 0 c j (by decide) h).1
  obtain ⟨f, x, h1, h2, h3, h4, _⟩ := rd_canon l 0 0 c j h
  simp at h2
  subst h2
  have e : E f c = enc c := by rw [enc_E]; exact E_stable f 9 c h1 (Nat.lt_of_lt_of_le hc (by decide))
  rw [e] at h3 h4
  exact ⟨by simpa using h3, by omega⟩
/-- How many bytes stand before the first one below 128. -/
def lead : List UInt8 → Nat
  | [] => 0
  | b :: l => if b.toNat < 128 then 0 else lead l + 1
/-- The sum of the digits, as the reference makes it. -/
def hor : List UInt8 → Nat
  | [] => 0
  | b :: l => b.toNat % 128 + 128 * hor l
theorem hor_E : ∀ (f x : Nat), x < 128 ^ (f + 1) → hor (E f x) = x
  | 0, x, h => by
    have h' : x < 128 := by simpa using h
    have : (UInt8.ofNat x).toNat = x := by simp; omega
    rw [E, hor, hor, this]; omega
  | f + 1, x, h => by
    rw [E]
    split
    · rename_i h'
      have : (UInt8.ofNat x).toNat = x := by simp; omega
      rw [hor, hor, this]; omega
    · have : (UInt8.ofNat (x % 128 + 128)).toNat = x % 128 + 128 := by simp; omega
      rw [hor, hor_E f (x / 128) (Nat.div_lt_of_lt_mul (by rw [Nat.pow_succ] at h; omega)), this]; omega
theorem lead_E : ∀ (f x : Nat) (t : List UInt8), x < 128 ^ (f + 1) → lead (E f x ++ t) + 1 = (E f x).length
  | 0, x, t, h => by
    have h' : x < 128 := by simpa using h
    have : (UInt8.ofNat x).toNat = x := by simp; omega
    rw [E, List.singleton_append, lead, this, if_pos h']; rfl
  | f + 1, x, t, h => by
    rw [E]
    split
    · rename_i h'
      have : (UInt8.ofNat x).toNat = x := by simp; omega
      rw [List.singleton_append, lead, this, if_pos h']; rfl
    · have : (UInt8.ofNat (x % 128 + 128)).toNat = x % 128 + 128 := by simp; omega
      rw [List.cons_append, lead, this, if_neg (by omega), lead_E f (x / 128) t (Nat.div_lt_of_lt_mul (by rw [Nat.pow_succ] at h; omega)), List.length_cons]
theorem enc_lead {c : Nat} (t : List UInt8) (h : c < 18446744073709551616) : lead (enc c ++ t) + 1 = (enc c).length := by
  rw [enc_E]; exact lead_E 9 c t (Nat.lt_of_lt_of_le h (by decide))
theorem enc_hor {c : Nat} (h : c < 18446744073709551616) : hor (enc c) = c := by
  rw [enc_E]; exact hor_E 9 c (Nat.lt_of_lt_of_le h (by decide))
/-- The reference's way of reading a number: the bytes up to the first one below 128, if they are the code of the number that they say. -/
theorem rd_ref (l : List UInt8) : rd l 0 0 = if lead l < 10 ∧ lead l < l.length ∧ enc (hor (l.take (lead l + 1)) % 18446744073709551616) = l.take (lead l + 1) then some (hor (l.take (lead l + 1)) % 18446744073709551616, lead l + 1) else none := by
  split
  · rename_i h
    have h1 := rd_enc (l.drop (lead l + 1)) (Nat.mod_lt (hor (l.take (lead l + 1))) (by decide : 18446744073709551616 > 0))
    have hl : (l.take (lead l + 1)).length = lead l + 1 := by simp; omega
    rw [h.2.2, List.take_append_drop, hl] at h1
    exact h1
  · rename_i h
    cases hr : rd l 0 0 with
    | none => rfl
    | some v =>
      obtain ⟨c, j⟩ := v
      exfalso
      have hs := rd_some l 0 0 c j (by decide) hr
      obtain ⟨h1, h2⟩ := rd_enc_of hr
      have e : l = enc c ++ l.drop j := by rw [← h1, List.take_append_drop]
      have hj : lead l + 1 = j := by rw [h2]; conv => lhs; rw [e]
                                     exact enc_lead _ hs.1
      have h10 : j ≤ 10 := by rw [h2, enc_len]; have := nd_le c; omega
      rw [hj, h1, enc_hor hs.1, Nat.mod_eq_of_lt hs.1] at h
      exact h ⟨by omega, by omega, rfl⟩
end Go.Proofs.Ytinkhgmdeldniaa.W.WP
end
