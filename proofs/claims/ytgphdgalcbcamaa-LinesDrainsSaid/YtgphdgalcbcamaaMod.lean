/- The remainder that is not negative (reference of layer 1). No conditions. -/
import Derived.Test.YtgphdgalcbcamaaBase
namespace Go.Proofs.Ytgphdgalcbcamaa
set_option maxRecDepth 100000
set_option linter.unusedVariables false
open Go.RowKit
namespace FP
theorem parts_of (n d q r : Int) (hd : 1 ≤ d) (h : r + d * q = n) (h0 : 0 ≤ r) (h1 : r < d) : n / d = q ∧ n % d = r :=
  (Int.ediv_emod_unique (by omega)).2 ⟨h, h0, h1⟩

theorem tparts (n d : Int) (hn : n < 0) (_hd : 1 ≤ d) : n.tdiv d = -((-n) / d) ∧ n.tmod d = -((-n) % d) := by
  have e : n = -(-n) := by omega
  constructor
  · rw [e, Int.neg_tdiv, Int.tdiv_eq_ediv_of_nonneg (by omega)]; simp
  · rw [e, Int.neg_tmod, Int.tmod_eq_emod_of_nonneg (by omega)]; simp

/-- Go's quotient and remainder of a negative number, against those that are rounded down. -/
theorem neg_zero (n d : Int) (hn : n < 0) (hd : 1 ≤ d) (h : n.tmod d = 0) : n / d = n.tdiv d ∧ n % d = 0 := by
  obtain ⟨a, b⟩ := tparts n d hn hd
  have hm := Int.mul_ediv_add_emod (-n) d
  refine parts_of n d _ _ hd ?_ (by omega) (by omega)
  rw [a, Int.mul_neg]; omega

theorem neg_less (n d : Int) (hn : n < 0) (hd : 1 ≤ d) (h : n.tmod d < 0) : n / d = n.tdiv d - 1 ∧ n % d = n.tmod d + d := by
  obtain ⟨a, b⟩ := tparts n d hn hd
  have hm := Int.mul_ediv_add_emod (-n) d
  have hl := Int.emod_lt_of_pos (-n) (show 0 < d by omega)
  refine parts_of n d _ _ hd ?_ (by omega) (by omega)
  rw [a, b, Int.mul_sub, Int.mul_neg]; omega

theorem tmod_bd (n d : Int) (hd : 1 ≤ d) : -d < n.tmod d ∧ n.tmod d < d ∧ (n < 0 → n.tmod d ≤ 0) ∧ (0 ≤ n → 0 ≤ n.tmod d) := by
  by_cases hn : n < 0
  · obtain ⟨_, b⟩ := tparts n d hn hd
    have hl := Int.emod_lt_of_pos (-n) (show 0 < d by omega)
    have hg := Int.emod_nonneg (-n) (show d ≠ 0 by omega)
    omega
  · have e : n.tmod d = n % d := Int.tmod_eq_emod_of_nonneg (by omega)
    have hl := Int.emod_lt_of_pos n (show 0 < d by omega)
    have hg := Int.emod_nonneg n (show d ≠ 0 by omega)
    omega

theorem modt (n m : Int) (hm : 1 ≤ m) : (n.tmod m + m) % m = n % m ∧ 0 ≤ n.tmod m + m := by
  obtain ⟨t1, t2, t3, t4⟩ := tmod_bd n m hm
  refine ⟨?_, by omega⟩
  by_cases hn : n < 0
  · by_cases ht : n.tmod m < 0
    · obtain ⟨e, f⟩ := neg_less n m hn hm ht
      rw [f, Int.emod_eq_of_lt (by omega) (by omega)]
    · obtain ⟨e, f⟩ := neg_zero n m hn hm (by have := t3 hn; omega)
      have : n.tmod m = 0 := by have := t3 hn; omega
      rw [f, this]; simp
  · have e : n.tmod m = n % m := Int.tmod_eq_emod_of_nonneg (by omega)
    rw [e, Int.add_emod_right, Int.emod_emod]
end FP
/-- The remainder that is not negative. -/
theorem mod_any (n m : Int) (w : World) (h0 : 1 ≤ m) (h1 : m ≤ 4611686018427387904) :
    Calls Try.prog 17 #[.int .i64 n, .int .i64 m] w fun e w' => e = .returned (.int .i64 (n % m)) ∧ w' = w := by
  obtain ⟨t1, t2, t3, t4⟩ := FP.tmod_bd n m h0
  obtain ⟨e1, e2⟩ := FP.modt n m h0
  have E : Hid ((n.tmod m + m) % m = n % m) := e1
  have r1 := Int.emod_lt_of_pos n (show 0 < m by omega)
  have r0 := Int.emod_nonneg n (show m ≠ 0 by omega)
  clear t3 t4 e1
  by_cases hn : 0 ≤ n
  · have E' : (n % m + m) % m = n % m := by rw [Int.add_emod_right, Int.emod_emod]
    go_enter Try.func17, Try.ntmps17
    go_wp2
    go_ret
    exact ⟨ret1 E', rfl⟩
  · go_enter Try.func17, Try.ntmps17
    go_wp2
    go_ret
    exact ⟨ret1 (by have := E.out; rw [Int.add_emod_right] at this; exact this), rfl⟩
end Go.Proofs.Ytgphdgalcbcamaa
