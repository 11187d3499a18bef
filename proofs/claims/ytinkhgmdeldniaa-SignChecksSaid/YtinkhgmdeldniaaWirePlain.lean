/- Plain facts on the code of numbers: the digits to the base 128, least first, and reading them back. No conditions. -/
import Derived.WalkKit
import Derived.Laws.BitsAllLaws
namespace Go.Proofs.Ytinkhgmdeldniaa.W.WP
set_option maxRecDepth 100000

/-- The code of a number: even for numbers that are not negative. -/
def zz (n : Int) : Nat := if 0 ≤ n then (2 * n).toNat else (-2 * n - 1).toNat
/-- .. and the number of a code. -/
def uz (c : Nat) : Int := if c % 2 = 0 then (c / 2 : Nat) else -((c / 2 : Nat) : Int) - 1
theorem uz_zz (n : Int) : uz (zz n) = n := by unfold uz zz; split <;> split <;> omega
theorem zz_uz (c : Nat) : zz (uz c) = c := by unfold uz zz; split <;> split <;> omega
theorem zz_lt {n : Int} (h0 : -9223372036854775808 ≤ n) (h1 : n ≤ 9223372036854775807) : zz n < 18446744073709551616 := by unfold zz; split <;> omega
theorem uz_bd {c : Nat} (h : c < 18446744073709551616) : -9223372036854775808 ≤ uz c ∧ uz c ≤ 9223372036854775807 := by unfold uz; split <;> omega

/-- How many digits stand before the last one (the fuel is never spent below 2^70). -/
def ndF : Nat → Nat → Nat
  | 0, _ => 0
  | f + 1, c => if c < 128 then 0 else ndF f (c / 128) + 1
def nd (c : Nat) : Nat := ndF 9 c
/-- The first k digits, each with the mark that another one follows. -/
def pre (c k : Nat) : List UInt8 := (List.range k).map fun i => UInt8.ofNat (c / 128 ^ i % 128 + 128)
/-- The bytes of a code. -/
def enc (c : Nat) : List UInt8 := pre c (nd c) ++ [UInt8.ofNat (c / 128 ^ nd c)]
/-- The bytes of a number. -/
def int (n : Int) : List UInt8 := enc (zz n)
def text (s : List UInt8) : List UInt8 := int s.length ++ s
def S (l : List UInt8) : ByteArray := ⟨l.toArray⟩

theorem ndF_le : ∀ (f c : Nat), ndF f c ≤ f
  | 0, _ => by simp [ndF]
  | f + 1, c => by unfold ndF; split; omega; have := ndF_le f (c / 128); omega
theorem ndF_more : ∀ (f c k : Nat), k < ndF f c → 128 ≤ c / 128 ^ k
  | 0, _, _, h => by simp [ndF] at h
  | f + 1, c, k, h => by
    unfold ndF at h
    split at h
    · omega
    · rename_i hc
      rcases k with _ | k
      · simpa using hc
      · have := ndF_more f (c / 128) k (by omega)
        rwa [Nat.div_div_eq_div_mul, Nat.mul_comm, ← Nat.pow_succ] at this
theorem ndF_last : ∀ (f c : Nat), c < 128 ^ (f + 1) → c / 128 ^ ndF f c < 128
  | 0, c, h => by simpa [ndF] using h
  | f + 1, c, h => by
    unfold ndF
    split
    · simpa
    · have := ndF_last f (c / 128) (by rw [Nat.pow_succ] at h; exact Nat.div_lt_of_lt_mul (by rw [Nat.mul_comm]; exact h))
      rwa [Nat.div_div_eq_div_mul, Nat.mul_comm, ← Nat.pow_succ] at this
theorem nd_le (c : Nat) : nd c ≤ 9 := ndF_le 9 c
theorem nd_last {c : Nat} (h : c < 18446744073709551616) : c / 128 ^ nd c < 128 := ndF_last 9 c (Nat.lt_of_lt_of_le h (by decide))
/-- Where the division comes below 128 for the first time, the digits end. -/
theorem nd_of {c k : Nat} (hc : c < 18446744073709551616) (h : ∀ j, j < k → 128 ≤ c / 128 ^ j) (hk : c / 128 ^ k < 128) : nd c = k := by
  rcases Nat.lt_trichotomy (nd c) k with e | e | e
  · have := h (nd c) e; have := nd_last hc; omega
  · exact e
  · have := ndF_more 9 c k e; omega
theorem enc_of {c k : Nat} (hc : c < 18446744073709551616) (h : ∀ j, j < k → 128 ≤ c / 128 ^ j) (hk : c / 128 ^ k < 128) : enc c = pre c k ++ [UInt8.ofNat (c / 128 ^ k)] := by
  unfold enc; rw [nd_of hc h hk]
theorem pre_len (c k : Nat) : (pre c k).length = k := by simp [pre]
theorem pre_succ (c k : Nat) : pre c (k + 1) = pre c k ++ [UInt8.ofNat (c / 128 ^ k % 128 + 128)] := by simp [pre, List.range_succ]
theorem enc_len (c : Nat) : (enc c).length = nd c + 1 := by simp [enc, pre_len]
theorem div_next (c k : Nat) : c / 128 ^ k / 128 = c / 128 ^ (k + 1) := by rw [Nat.div_div_eq_div_mul, ← Nat.pow_succ]
/-- After nine digits nothing of 64 bits is left but one more. -/
theorem ninth {c k : Nat} (hc : c < 18446744073709551616) (h : 128 ≤ c / 128 ^ k) : k < 9 := by
  rcases Nat.lt_or_ge k 9 with e | e
  · exact e
  · have h1 : 128 ^ 9 ≤ 128 ^ k := Nat.pow_le_pow_right (by decide) e
    have h2 : c / 128 ^ k ≤ c / 128 ^ 9 := Nat.div_le_div_left h1 (by decide)
    have h3 : (128 : Nat) ^ 9 = 9223372036854775808 := by decide
    rw [h3] at h2
    omega

theorem xor_ones {x : Nat} (h : x < 18446744073709551616) : x ^^^ 18446744073709551615 = 18446744073709551615 - x := by
  apply Nat.eq_of_testBit_eq
  intro i
  have e : (18446744073709551615 : Nat) - x = 2 ^ 64 - (x + 1) := by omega
  rw [e, Nat.testBit_two_pow_sub_succ h, Nat.testBit_xor]
  have e1 : (18446744073709551615 : Nat) = 2 ^ 64 - 1 := by decide
  rw [e1, Nat.testBit_two_pow_sub_one]
  by_cases hi : i < 64
  · simp [hi]
  · have : x.testBit i = false := Nat.testBit_lt_two_pow (Nat.lt_of_lt_of_le h (by
      have := Nat.pow_le_pow_right (show 1 ≤ 2 by decide) (show 64 ≤ i by omega)
      simpa using this))
    simp [hi, this]
/-- The code as the program makes it, by a shift and the sign. -/
theorem zig {n : Int} (h0 : -9223372036854775808 ≤ n) (h1 : n ≤ 9223372036854775807) :
    bits BinOp.xor IntKind.u64 (IntKind.u64.wrap (IntKind.u64.wrap n * 2)) (IntKind.u64.wrap (n / 9223372036854775808)) = (zz n : Int) := by
  unfold zz
  by_cases hn : 0 ≤ n
  · rw [if_pos hn]
    have e1 : IntKind.u64.wrap n = n := IntWalk.u64_in _ (by omega)
    have e2 : n / 9223372036854775808 = 0 := by omega
    rw [e1, e2, IntWalk.u64_in _ (by omega), IntWalk.u64_in _ (by omega)]
    have := u64_xor_nat (n * 2).toNat 0 (by omega) (by decide)
    rw [show (((n * 2).toNat : Nat) : Int) = n * 2 by omega] at this
    rw [show (((0 : Nat)) : Int) = 0 from rfl] at this
    rw [this, Nat.xor_zero]
    omega
  · rw [if_neg hn]
    have e1 : IntKind.u64.wrap n = n + 18446744073709551616 := by
      simp only [IntKind.wrap_u64]; omega
    have e2 : n / 9223372036854775808 = -1 := by omega
    have e3 : IntKind.u64.wrap (-1) = 18446744073709551615 := by decide
    have e4 : IntKind.u64.wrap ((n + 18446744073709551616) * 2) = 2 * n + 18446744073709551616 := by
      simp only [IntKind.wrap_u64]; omega
    rw [e1, e2, e3, e4]
    have := u64_xor_nat (2 * n + 18446744073709551616).toNat 18446744073709551615 (by omega) (by decide)
    rw [show (((2 * n + 18446744073709551616).toNat : Nat) : Int) = 2 * n + 18446744073709551616 by omega] at this
    rw [show (((18446744073709551615 : Nat)) : Int) = 18446744073709551615 from rfl] at this
    rw [this, xor_ones (by omega)]
    omega
theorem or128 : ∀ x : Fin 256, x.val ||| 128 = x.val % 128 + 128 := by decide +kernel
/-- A digit with its mark, as the program makes it. -/
theorem mark {x : Nat} : bits BinOp.or IntKind.u8 (IntKind.u8.wrap (x : Int)) 128 = ((x % 128 + 128 : Nat) : Int) := by
  have e : IntKind.u8.wrap (x : Int) = ((x % 256 : Nat) : Int) := by simp only [IntKind.wrap_u8]; omega
  rw [e]
  have := u8_or_nat (x % 256) 128 (by omega) (by decide)
  rw [show (((128 : Nat)) : Int) = 128 from rfl] at this
  rw [this]
  have := or128 ⟨x % 256, by omega⟩
  simp only at this
  rw [this]
  omega
theorem S_size (l : List UInt8) : (S l).size = l.length := by simp [S, ByteArray.size]
theorem S_get (l : List UInt8) (i : Nat) (h : i < (S l).size) : (S l)[i] = l.getD i 0 := by
  have h' : i < l.length := by rwa [S_size] at h
  show (S l).data[i]'_ = _
  simp [S, List.getD, List.getElem?_eq_getElem h']
theorem pre_getD {c k i : Nat} (h : i < k) (b : UInt8) : ((pre c k ++ [b]).getD i 0).toNat = c / 128 ^ i % 128 + 128 := by
  have h1 : i < (pre c k).length := by rw [pre_len]; exact h
  have : (pre c k ++ [b]).getD i 0 = UInt8.ofNat (c / 128 ^ i % 128 + 128) := by
    simp [List.getD, List.getElem?_append_left h1]
    simp [pre, h]
  rw [this]
  simp
  omega
theorem pre_getD_last (c k : Nat) (b : UInt8) : (pre c k ++ [b]).getD k 0 = b := by
  have := pre_len c k
  simp [List.getD, this]
theorem S_append (a b : List UInt8) : S a ++ S b = S (a ++ b) := by apply ByteArray.ext; simp [S]
theorem S_toList (l : List UInt8) : (S l).data.toList = l := by simp [S]
theorem S_inj {a b : List UInt8} (h : S a = S b) : a = b := by rw [← S_toList a, h, S_toList]
theorem S_of (s : ByteArray) : S s.data.toList = s := by apply ByteArray.ext; simp [S]
theorem int_len (n : Int) : (int n).length ≤ 10 := by unfold int; rw [enc_len]; have := nd_le (zz n); omega
theorem int_size (n : Int) : (S (int n)).size ≤ 10 := by rw [S_size]; exact int_len n
/-- One byte, as a string. -/
def one (v : Int) : ByteArray := S [UInt8.ofNat v.toNat]
theorem one_size (v : Int) : (one v).size ≤ 1 := by unfold one; rw [S_size]; simp
theorem mark' {x : Nat} : bits BinOp.or IntKind.u8 ((x : Int) % 256) 128 = ((x % 128 + 128 : Nat) : Int) := by
  have := mark (x := x)
  rwa [show IntKind.u8.wrap (x : Int) = (x : Int) % 256 by simp only [IntKind.wrap_u8]] at this
end Go.Proofs.Ytinkhgmdeldniaa.W.WP
