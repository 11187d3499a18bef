/- The contracts of the reference's roundings, of remainders that are not negative, and of greatest common divisors, for all int64 that the callers pass. -/
import Derived.Test.YtbhkbjnmpaebdaaFixRound
namespace Go.Proofs.Ytbhkbjnmpaebdaa.F
open Go.RowKit

namespace FP
/-- The greatest common divisor. -/
def gc (a b : Int) : Int := (Nat.gcd a.toNat b.toNat : Nat)
theorem gc_zero (x : Nat) : gc (x : Int) (0 : Nat) = x := by unfold gc; simp
theorem gc_step (x y : Nat) : Nat.gcd y (x % y) = Nat.gcd x y := by rw [Nat.gcd_comm y, ← Nat.gcd_rec, Nat.gcd_comm]
theorem modt (n m : Int) (hm : 1 ≤ m) : (n.tmod m + m) % m = n % m ∧ 0 ≤ n.tmod m + m := by
  obtain ⟨t1, t2, t3, t4⟩ := tmod_bd n m hm
  refine ⟨?_, by omega⟩
  by_cases hn : n < 0
  · by_cases ht : n.tmod m < 0
    · obtain ⟨e, f⟩ := neg_less n m hn hm ht
      rw [f, Int.emod_eq_of_lt (by omega) (by omega)]
    · obtain ⟨e, f⟩ := neg_zero n m hn hm (by have := t3 hn; omega)
      have : n.tmod m = 0 := by have := t3 hn; omega
      rw [f, this]; simp
  · have e : n.tmod m = n % m := Int.tmod_eq_emod_of_nonneg (by omega)
    rw [e, Int.add_emod_right, Int.emod_emod]
end FP

set_option maxHeartbeats 1000000 in
theorem rdown_yes (n d : Int) (w : World) (hd : 1 ≤ d) (n0 : -9223372036854775808 ≤ n) (n1 : n ≤ 9223372036854775807) (d1 : d ≤ 9223372036854775807) :
    Calls Try.prog 79 #[.int .i64 n, .int .i64 d] w fun e w' => e = .returned (.tuple #[.int .i64 (n / d), .bool true]) ∧ Below w.heap.size w w' := by
  obtain ⟨b1, b2, b3⟩ := FP.rnd_bd n d hd n0 n1
  clear b3
  by_cases hn : 0 ≤ n
  · have r1 := Int.emod_lt_of_pos n (show 0 < d by omega)
    have r0 := Int.emod_nonneg n (show d ≠ 0 by omega)
    go_enter Try.func79, Try.ntmps79
    go_wp2
    go_ret2
    exact ⟨rfl, by go_grown⟩
  · obtain ⟨s1, s2, s3⟩ := FP.tdiv_bd n d hd n0 n1
    obtain ⟨t1, t2, t3, t4⟩ := FP.tmod_bd n d hd
    have t5 := t3 (by omega)
    by_cases ht : n.tmod d < 0
    · obtain ⟨e, f⟩ := FP.neg_less n d (by omega) hd ht
      have s4 := s3 (by omega) ht
      have E : Hid (n / d = n.tdiv d - 1) := e
      clear t3 t4 s3 b1 b2 e f
      go_enter Try.func79, Try.ntmps79
      go_wp2
      go_ret2
      exact ⟨ret2 (by have := E.out; omega), by go_grown⟩
    · obtain ⟨e, f⟩ := FP.neg_zero n d (by omega) hd (by omega)
      have E : Hid (n / d = n.tdiv d) := e
      clear t3 t4 s3 b1 b2 e f
      go_enter Try.func79, Try.ntmps79
      go_wp2
      go_ret2
      exact ⟨ret2 (by have := E.out; omega), by go_grown⟩

set_option maxHeartbeats 400000 in
theorem rdown_no (n d : Int) (w : World) (hd : d < 1) :
    Calls Try.prog 79 #[.int .i64 n, .int .i64 d] w fun e w' => e = .returned (.tuple #[.int .i64 0, .bool false]) ∧ Below w.heap.size w w' := by
  go_enter Try.func79, Try.ntmps79
  go_wp2
  go_ret2
  exact ⟨rfl, by go_grown⟩

set_option maxHeartbeats 1000000 in
theorem rround_yes (n d : Int) (w : World) (hd : 1 ≤ d) (n0 : -9223372036854775808 ≤ n) (n1 : n ≤ 9223372036854775807) (d1 : d ≤ 9223372036854775807) :
    Calls Try.prog 71 #[.int .i64 n, .int .i64 d] w fun e w' => e = .returned (.tuple #[.int .i64 (FP.rnd n d), .bool true]) ∧ Below w.heap.size w w' := by
  obtain ⟨b1, b2, b3⟩ := FP.rnd_bd n d hd n0 n1
  obtain ⟨t1, t2, t3, t4⟩ := FP.tmod_bd n d hd
  have r1 := Int.emod_lt_of_pos n (show 0 < d by omega)
  have r0 := Int.emod_nonneg n (show d ≠ 0 by omega)
  have key : (0 ≤ n ∧ n.tmod d = n % d) ∨ (n < 0 ∧ n.tmod d < 0 ∧ n % d = n.tmod d + d) ∨ (n < 0 ∧ (0 ≤ n.tmod d ∧ n.tmod d ≤ 0) ∧ n % d = n.tmod d) := by
    by_cases hn : 0 ≤ n
    · exact .inl ⟨hn, Int.tmod_eq_emod_of_nonneg (by omega)⟩
    · have t5 := t3 (by omega)
      by_cases ht : n.tmod d < 0
      · exact .inr (.inl ⟨by omega, ht, (FP.neg_less n d (by omega) hd ht).2⟩)
      · have := (FP.neg_zero n d (by omega) hd (by omega)).2
        exact .inr (.inr ⟨by omega, by omega, by omega⟩)
  have E0 : Hid (FP.rnd n d = if d - n % d ≤ n % d then n / d + 1 else n / d) := rfl
  by_cases hm : d - n % d ≤ n % d
  · have E : Hid (FP.rnd n d = n / d + 1) := if_pos hm
    have b4 := b3 (by omega)
    clear b3 t3 t4
    rcases key with ⟨hn, ht⟩ | ⟨hn, ht, hr⟩ | ⟨hn, ht, hr⟩
    · clear ht
      go_enter Try.func71, Try.ntmps71
      go_wp2_with (go_at_call 79; refine (rdown_yes _ _ _ hd n0 n1 d1).mono ?_; rintro e w' ⟨rfl, hb1⟩)
      go_ret2
      exact ⟨ret2 E.out.symm, by go_grown⟩
    · have hm2 : d - (n.tmod d + d) ≤ n.tmod d + d := by omega
      clear hr hm r1 r0
      go_enter Try.func71, Try.ntmps71
      go_wp2_with (go_at_call 79; refine (rdown_yes _ _ _ hd n0 n1 d1).mono ?_; rintro e w' ⟨rfl, hb1⟩)
      go_ret2
      exact ⟨ret2 E.out.symm, by go_grown⟩
    · exfalso; omega
  · have E : Hid (FP.rnd n d = n / d) := if_neg hm
    clear b3 t3 t4
    rcases key with ⟨hn, ht⟩ | ⟨hn, ht, hr⟩ | ⟨hn, ht, hr⟩
    · clear ht
      go_enter Try.func71, Try.ntmps71
      go_wp2_with (go_at_call 79; refine (rdown_yes _ _ _ hd n0 n1 d1).mono ?_; rintro e w' ⟨rfl, hb1⟩)
      go_ret2
      exact ⟨ret2 E.out.symm, by go_grown⟩
    · have hm2 : ¬ d - (n.tmod d + d) ≤ n.tmod d + d := by omega
      clear hr hm r1 r0
      go_enter Try.func71, Try.ntmps71
      go_wp2_with (go_at_call 79; refine (rdown_yes _ _ _ hd n0 n1 d1).mono ?_; rintro e w' ⟨rfl, hb1⟩)
      go_ret2
      exact ⟨ret2 E.out.symm, by go_grown⟩
    · have hm2 : ¬ d - n.tmod d ≤ n.tmod d := by omega
      have ht0 := ht.1
      clear hr hm r1 r0 ht
      go_enter Try.func71, Try.ntmps71
      go_wp2_with (go_at_call 79; refine (rdown_yes _ _ _ hd n0 n1 d1).mono ?_; rintro e w' ⟨rfl, hb1⟩)
      go_ret2
      exact ⟨ret2 E.out.symm, by go_grown⟩

set_option maxHeartbeats 400000 in
theorem rround_no (n d : Int) (w : World) (hd : d < 1) :
    Calls Try.prog 71 #[.int .i64 n, .int .i64 d] w fun e w' => e = .returned (.tuple #[.int .i64 0, .bool false]) ∧ Below w.heap.size w w' := by
  go_enter Try.func71, Try.ntmps71
  go_wp2_with (go_at_call 79; refine (rdown_no _ _ _ hd).mono ?_; rintro e w' ⟨rfl, hb1⟩)
  go_ret2
  exact ⟨rfl, by go_grown⟩

/-- The remainder that is not negative. -/
theorem mod_any (n m : Int) (w : World) (h0 : 1 ≤ m) (h1 : m ≤ 4611686018427387904) :
    Calls Try.prog 39 #[.int .i64 n, .int .i64 m] w fun e w' => e = .returned (.int .i64 (n % m)) ∧ w' = w := by
  obtain ⟨t1, t2, t3, t4⟩ := FP.tmod_bd n m h0
  obtain ⟨e1, e2⟩ := FP.modt n m h0
  have E : Hid ((n.tmod m + m) % m = n % m) := e1
  have r1 := Int.emod_lt_of_pos n (show 0 < m by omega)
  have r0 := Int.emod_nonneg n (show m ≠ 0 by omega)
  clear t3 t4 e1
  by_cases hn : 0 ≤ n
  · have E' : (n % m + m) % m = n % m := by rw [Int.add_emod_right, Int.emod_emod]
    go_enter Try.func39, Try.ntmps39
    go_wp2
    go_ret
    exact ⟨ret1 E', rfl⟩
  · go_enter Try.func39, Try.ntmps39
    go_wp2
    go_ret
    exact ⟨ret1 (by have := E.out; rw [Int.add_emod_right] at this; exact this), rfl⟩

set_option maxHeartbeats 400000 in
/-- The reference's greatest common divisor. -/
theorem common_any (a b : Int) (w : World) (a0 : 0 ≤ a) (b0 : 0 ≤ b) (a1 : a ≤ 9223372036854775807) (b1 : b ≤ 9223372036854775807) :
    Calls Try.prog 76 #[.int .i64 a, .int .i64 b] w fun e w' => e = .returned (.int .i64 (FP.gc a b)) ∧ Below w.heap.size w w' := by
  obtain ⟨a, rfl⟩ := Int.eq_ofNat_of_zero_le a0
  obtain ⟨b, rfl⟩ := Int.eq_ofNat_of_zero_le b0
  go_enter Try.func76, Try.ntmps76
  go_wp2
  go_loop [0, 1] (fun x y => ∃ p q : Nat, (p : Int) ≤ 9223372036854775807 ∧ (q : Int) ≤ 9223372036854775807 ∧ x = .int .i64 p ∧ y = .int .i64 q ∧ Hid (Nat.gcd p q = Nat.gcd a b)) (fun _ y => (intOf y).toNat)
  case atStart => exact ⟨a, b, a1, b1, rfl, rfl, rfl⟩
  case round =>
    obtain ⟨p, q, p1, q1, rfl, rfl, hg⟩ := hrel
    by_cases hq : 0 < q
    · have m1 : p % q < q := Nat.mod_lt _ hq
      have m2 : ((p : Int) % (q : Int)) = ((p % q : Nat) : Int) := by simp
      have M := hg
      clear hg
      have HM : Hid (((p : Int) % (q : Int)) = ((p % q : Nat) : Int)) := m2
      clear m2
      go_wp2
      go_round
      case rel => exact ⟨q, p % q, by omega, by omega, rfl, by rw [HM.out], by have := M.out; show _ = _; rw [← this]; exact FP.gc_step p q⟩
      case measure => rw [HM.out]; simp [intOf]; omega
    · obtain rfl : q = 0 := by omega
      go_wp2
      go_ret
      exact ⟨ret1 (by have := hg.out; unfold FP.gc; simp at this; simp [this]), Below.refl _ _⟩

set_option maxHeartbeats 400000 in
/-- The program's greatest common divisor. -/
theorem divisor_any (a b : Int) (w : World) (a0 : 0 ≤ a) (b0 : 0 ≤ b) (a1 : a ≤ 9223372036854775807) (b1 : b ≤ 9223372036854775807) :
    Calls Try.prog 70 #[.int .i64 a, .int .i64 b] w fun e w' => e = .returned (.int .i64 (FP.gc a b)) ∧ Below w.heap.size w w' := by
  obtain ⟨a, rfl⟩ := Int.eq_ofNat_of_zero_le a0
  obtain ⟨b, rfl⟩ := Int.eq_ofNat_of_zero_le b0
  go_enter Try.func70, Try.ntmps70
  go_wp2
  go_loopw [0, 1] (fun x y wr => ∃ p q : Nat, (p : Int) ≤ 9223372036854775807 ∧ (q : Int) ≤ 9223372036854775807 ∧ x = .int .i64 p ∧ y = .int .i64 q ∧ Hid (Nat.gcd p q = Nat.gcd a b) ∧ Below w.heap.size w wr) (fun _ y _ => (intOf y).toNat)
  case atStart => exact ⟨a, b, a1, b1, rfl, rfl, rfl, Below.refl _ _⟩
  case round =>
    obtain ⟨p, q, p1, q1, rfl, rfl, hg, hb⟩ := hrel
    by_cases hq : 0 < q
    · have m1 : p % q < q := Nat.mod_lt _ hq
      have HM : Hid (((p : Int) % (q : Int)) = ((p % q : Nat) : Int)) := by show _ = _; simp
      have hz : ((q : Int) != 0) = true := by rw [bne_iff_ne]; omega
      go_wp2
      go_quiet (fail)
      go_wp2
      go_roundw
      case rel => exact ⟨q, p % q, by omega, by omega, rfl, by rw [HM.out], by have := hg.out; show _ = _; rw [← this]; exact FP.gc_step p q, below_drewN hb _⟩
      case measure => rw [HM.out]; simp [intOf]; omega
    · obtain rfl : q = 0 := by omega
      go_wp2
      go_ret
      exact ⟨ret1 (by have := hg.out; unfold FP.gc; simp at this; simp [this]), hb⟩
end Go.Proofs.Ytbhkbjnmpaebdaa.F
