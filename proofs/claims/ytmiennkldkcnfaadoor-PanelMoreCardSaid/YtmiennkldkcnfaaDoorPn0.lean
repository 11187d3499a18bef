/- Bits of rows: what a write does to a row, what a cut takes of it. No conditions. -/
import Derived.Test.YtmiennkldkcnfaaDoorFr
namespace Go.Proofs.YtmiennkldkcnfaaDoor.PN
set_option linter.unusedVariables false
def shl (a x : Nat) : Nat := a * 2 ^ x % 18446744073709551616
def ins (old row X W : Nat) : Nat := (old &&& (18446744073709551615 - shl (2 ^ W - 1) X)) ||| shl row X
def cutb (row X W : Nat) : Nat := (row / 2 ^ X) &&& (2 ^ W - 1)
def wit (row i : Nat) (on : Bool) : Nat := if on then (row &&& (18446744073709551615 - shl 1 i)) ||| shl 1 i else row &&& (18446744073709551615 - shl 1 i)
theorem shl_lt (a x : Nat) : shl a x < 18446744073709551616 := Nat.mod_lt _ (by decide)
theorem not_bit {m : Nat} (i : Nat) (hm : m < 18446744073709551616) : (18446744073709551615 - m).testBit i = (decide (i < 64) && !m.testBit i) := by
  have h := Nat.testBit_two_pow_sub_succ (n := 64) (x := m) hm i
  rw [show 2 ^ 64 - (m + 1) = 18446744073709551615 - m by omega] at h
  exact h
theorem shl_bit (a x i : Nat) : (shl a x).testBit i = (decide (i < 64) && (decide (x ≤ i) && a.testBit (i - x))) := by
  unfold shl
  rw [show (18446744073709551616 : Nat) = 2 ^ 64 by decide, Nat.testBit_mod_two_pow, Nat.testBit_mul_two_pow]
theorem msk_bit (w i : Nat) : (2 ^ w - 1).testBit i = decide (i < w) := Nat.testBit_two_pow_sub_one w i
theorem bit_ge {a n i : Nat} (h : a < 2 ^ n) (hi : n ≤ i) : a.testBit i = false := Nat.testBit_lt_two_pow (Nat.lt_of_lt_of_le h (Nat.pow_le_pow_right (by decide) hi))
theorem lt_of_bits {a n : Nat} (h : ∀ i, n ≤ i → a.testBit i = false) : a < 2 ^ n := Nat.lt_pow_two_of_testBit a h
theorem ins_bit {old row X W : Nat} (ho : old < 2 ^ 64) (hr : row < 2 ^ W) (hx : X + W ≤ 64) (i : Nat) : (ins old row X W).testBit i = if X ≤ i ∧ i < X + W then row.testBit (i - X) else old.testBit i := by
  unfold ins
  rw [Nat.testBit_or, Nat.testBit_and, not_bit i (shl_lt _ _), shl_bit, shl_bit, msk_bit]
  by_cases h1 : X ≤ i
  · by_cases h2 : i < X + W
    · rw [if_pos ⟨h1, h2⟩]
      have a1 : i < 64 := by omega
      have a2 : i - X < W := by omega
      simp [h1, a1, a2]
    · rw [if_neg (by omega)]
      rw [bit_ge hr (show W ≤ i - X by omega)]
      by_cases h3 : i < 64
      · simp [h1, h3, show ¬ i - X < W by omega]
      · rw [bit_ge ho (by omega)]
        simp
  · rw [if_neg (by omega)]
    by_cases h3 : i < 64
    · simp [h1, h3]
    · rw [bit_ge ho (by omega)]
      simp [h1]
theorem cut_bit (row X W i : Nat) : (cutb row X W).testBit i = (decide (i < W) && row.testBit (X + i)) := by
  unfold cutb
  rw [Nat.testBit_and, msk_bit, Nat.testBit_div_two_pow, Bool.and_comm, Nat.add_comm]
theorem cut_lt (row X W : Nat) : cutb row X W < 2 ^ W := lt_of_bits fun i hi => by rw [cut_bit]; simp; omega
theorem wit_bit {row i : Nat} (on : Bool) (hr : row < 2 ^ 64) (hi : i < 64) (j : Nat) : (wit row i on).testBit j = if j = i then on else row.testBit j := by
  have h1 : (shl 1 i).testBit j = decide (j = i) := by
    rw [shl_bit]
    by_cases h : j = i
    · subst h
      simp [hi]
    · by_cases h2 : i ≤ j
      · have h3 : Nat.testBit 1 (j - i) = false := bit_ge (n := 1) (by decide) (by omega)
        rw [h3]
        simp [h]
      · simp [h2, h]
  unfold wit
  by_cases h : j = i
  · subst h
    cases on
    · simp [Nat.testBit_and, not_bit j (shl_lt _ _), h1]
    · simp [Nat.testBit_or, h1]
  · rw [if_neg h]
    have h4 : (row &&& 18446744073709551615 - shl 1 i).testBit j = row.testBit j := by
      rw [Nat.testBit_and, not_bit j (shl_lt _ _), h1]
      by_cases h3 : j < 64
      · simp [h, h3]
      · rw [bit_ge hr (by omega)]
        simp
    cases on
    · exact h4
    · show (_ ||| _ : Nat).testBit j = _
      rw [Nat.testBit_or, h4, h1]
      simp [h]
theorem wit_lt {row i : Nat} (on : Bool) (hr : row < 2 ^ 64) (hi : i < 64) : wit row i on < 2 ^ 64 := lt_of_bits fun j hj => by
  rw [wit_bit on hr hi, if_neg (by omega), bit_ge hr hj]
theorem ins_lt {old row X W n : Nat} (ho : old < 2 ^ n) (hn : n ≤ 64) (hr : row < 2 ^ W) (hx : X + W ≤ n) : ins old row X W < 2 ^ n := lt_of_bits fun j hj => by
  rw [ins_bit (Nat.lt_of_lt_of_le ho (Nat.pow_le_pow_right (by decide) hn)) hr (by omega), if_neg (by omega), bit_ge ho hj]
/-- The rows y .. y + n - 1 get the first n rows of S, from X on, W pixels of each. -/
def wrt (S : List Nat) (n y X W : Nat) (R : List Nat) : List Nat := R.mapIdx fun j old => if y ≤ j ∧ j < y + n then ins old (S.getD (j - y) 0) X W else old
theorem wrt_len (S : List Nat) (n y X W : Nat) (R : List Nat) : (wrt S n y X W R).length = R.length := by simp [wrt]
theorem wrt_at (S : List Nat) (n y X W : Nat) (R : List Nat) (j : Nat) : (wrt S n y X W R)[j]? = (R[j]?).map fun old => if y ≤ j ∧ j < y + n then ins old (S.getD (j - y) 0) X W else old := by
  simp [wrt]
theorem wrt_zero (S : List Nat) (y X W : Nat) (R : List Nat) : wrt S 0 y X W R = R := by
  refine List.ext_getElem? fun j => ?_
  rw [wrt_at]
  cases R[j]? with
  | none => rfl
  | some o => simp; intro h1 h2; omega
theorem wrt_here (S : List Nat) (n y X W : Nat) (R : List Nat) : (wrt S n y X W R)[y + n]? = R[y + n]? := by
  rw [wrt_at]
  cases R[y + n]? with
  | none => rfl
  | some o => simp
theorem wrt_succ (S : List Nat) (n y X W : Nat) (R : List Nat) (h : y + n < R.length) : wrt S (n + 1) y X W R = (wrt S n y X W R).set (y + n) (ins (R.getD (y + n) 0) (S.getD n 0) X W) := by
  refine List.ext_getElem? fun j => ?_
  rw [List.getElem?_set, wrt_at, wrt_at, wrt_len]
  by_cases e : y + n = j
  · subst e
    rw [if_pos rfl, if_pos h, List.getElem?_eq_getElem h, List.getD_eq_getElem?_getD (l := R), List.getElem?_eq_getElem h]
    simp
  · rw [if_neg e]
    cases R[j]? with
    | none => rfl
    | some o =>
      simp only [Option.map_some, Option.some.injEq]
      by_cases h2 : y ≤ j ∧ j < y + n
      · rw [if_pos h2, if_pos (by omega)]
      · rw [if_neg h2, if_neg (by omega)]
end Go.Proofs.YtmiennkldkcnfaaDoor.PN
