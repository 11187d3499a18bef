/- Texts merged: FixPlain, FixRound, FixRef, FixMore, FixOps, FixTimes. No conditions. -/
import Derived.WalkKit
import Derived.Test.YtanppbdlcinpfaaRows
import Derived.Handy
import Derived.BigQuiet
import Derived.Deep.QuietTactic
import Derived.Laws.EntriesVeiled
import Derived.WalkSmall
import Derived.Lib.Hide
/- Plain arithmetic of rounding and of scalars: no program in sight. No conditions. -/
section
namespace Go.Proofs.Ytanppbdlcinpfaa.F.FP

/-- n / d rounded to the nearest number, of two to the greater one. -/
def rnd (n d : Int) : Int := if d - n % d ≤ n % d then n / d + 1 else n / d
/-- n / d rounded up. -/
def upw (n d : Int) : Int := if 0 < n % d then n / d + 1 else n / d

theorem parts_of (n d q r : Int) (hd : 1 ≤ d) (h : r + d * q = n) (h0 : 0 ≤ r) (h1 : r < d) : n / d = q ∧ n % d = r :=
  (Int.ediv_emod_unique (by omega)).2 ⟨h, h0, h1⟩

theorem tparts (n d : Int) (hn : n < 0) (_hd : 1 ≤ d) : n.tdiv d = -((-n) / d) ∧ n.tmod d = -((-n) % d) := by
  have e : n = -(-n) := by omega
  constructor
  · rw [e, Int.neg_tdiv, Int.tdiv_eq_ediv_of_nonneg (by omega)]; simp
  · rw [e, Int.neg_tmod, Int.tmod_eq_emod_of_nonneg (by omega)]; simp

/-- Go's quotient and remainder of a negative number, against those that are rounded down. -/
theorem neg_zero (n d : Int) (hn : n < 0) (hd : 1 ≤ d) (h : n.tmod d = 0) : n / d = n.tdiv d ∧ n % d = 0 := by
  obtain ⟨a, b⟩ := tparts n d hn hd
  have hm := Int.mul_ediv_add_emod (-n) d
  refine parts_of n d _ _ hd ?_ (by omega) (by omega)
  rw [a, Int.mul_neg]; omega

theorem neg_less (n d : Int) (hn : n < 0) (hd : 1 ≤ d) (h : n.tmod d < 0) : n / d = n.tdiv d - 1 ∧ n % d = n.tmod d + d := by
  obtain ⟨a, b⟩ := tparts n d hn hd
  have hm := Int.mul_ediv_add_emod (-n) d
  have hl := Int.emod_lt_of_pos (-n) (show 0 < d by omega)
  refine parts_of n d _ _ hd ?_ (by omega) (by omega)
  rw [a, b, Int.mul_sub, Int.mul_neg]; omega

theorem tmod_bd (n d : Int) (hd : 1 ≤ d) : -d < n.tmod d ∧ n.tmod d < d ∧ (n < 0 → n.tmod d ≤ 0) ∧ (0 ≤ n → 0 ≤ n.tmod d) := by
  by_cases hn : n < 0
  · obtain ⟨_, b⟩ := tparts n d hn hd
    have hl := Int.emod_lt_of_pos (-n) (show 0 < d by omega)
    have hg := Int.emod_nonneg (-n) (show d ≠ 0 by omega)
    omega
  · have e : n.tmod d = n % d := Int.tmod_eq_emod_of_nonneg (by omega)
    have hl := Int.emod_lt_of_pos n (show 0 < d by omega)
    have hg := Int.emod_nonneg n (show d ≠ 0 by omega)
    omega

theorem tdiv_bd (n d : Int) (hd : 1 ≤ d) (h0 : -9223372036854775808 ≤ n) (h1 : n ≤ 9223372036854775807) : -9223372036854775808 ≤ n.tdiv d ∧ n.tdiv d ≤ 9223372036854775807 ∧ (n < 0 → n.tmod d < 0 → -9223372036854775808 < n.tdiv d) := by
  by_cases hn : n < 0
  · obtain ⟨a, b⟩ := tparts n d hn hd
    have q0 : 0 ≤ (-n) / d := Int.ediv_nonneg (by omega) (by omega)
    have q1 : (-n) / d ≤ -n := Int.ediv_le_self _ (by omega)
    refine ⟨by omega, by omega, fun _ hr => ?_⟩
    have d2 : 2 ≤ d := by
      by_cases d1 : d = 1
      · subst d1; rw [b] at hr; have := Int.emod_one (-n); omega
      · omega
    have hm := Int.mul_ediv_add_emod (-n) d
    have h2 : 2 * ((-n) / d) ≤ d * ((-n) / d) := Int.mul_le_mul_of_nonneg_right d2 q0
    have hg := Int.emod_nonneg (-n) (show d ≠ 0 by omega)
    omega
  · have e : n.tdiv d = n / d := Int.tdiv_eq_ediv_of_nonneg (by omega)
    have q0 : 0 ≤ n / d := Int.ediv_nonneg (by omega) (by omega)
    have q1 : n / d ≤ n := Int.ediv_le_self _ (by omega)
    omega
end Go.Proofs.Ytanppbdlcinpfaa.F.FP
end
/- The contracts of fix.Round, fix.Down and fix.Up and of the reference's: for every int64 they return the rounded quotient, or 0 and false for a divisor below 1. -/
section
namespace Go.Proofs.Ytanppbdlcinpfaa.F
open Go.RowKit

theorem ret2 {a b : Int} {c : Bool} (h : a = b) : Ending.returned (.tuple #[.int .i64 a, .bool c]) = .returned (.tuple #[.int .i64 b, .bool c]) := by rw [h]
theorem ret1 {a b : Int} (h : a = b) : Ending.returned (.int .i64 a) = .returned (.int .i64 b) := by rw [h]

def lo64 (n : Int) : Prop := -9223372036854775808 ≤ n ∧ n ≤ 9223372036854775807

namespace FP
theorem rnd_bd (n d : Int) (hd : 1 ≤ d) (h0 : -9223372036854775808 ≤ n) (h1 : n ≤ 9223372036854775807) :
    n / d ≤ 9223372036854775807 ∧ -9223372036854775808 ≤ n / d ∧ (0 < n % d → n / d + 1 ≤ 9223372036854775807) := by
  obtain ⟨a, b, c⟩ := tdiv_bd n d hd h0 h1
  obtain ⟨t1, t2, t3, t4⟩ := tmod_bd n d hd
  by_cases hn : n < 0
  · by_cases ht : n.tmod d < 0
    · obtain ⟨e, f⟩ := neg_less n d hn hd ht
      have := c hn ht
      omega
    · obtain ⟨e, f⟩ := neg_zero n d hn hd (by have := t3 hn; omega)
      omega
  · have e : n.tdiv d = n / d := Int.tdiv_eq_ediv_of_nonneg (by omega)
    refine ⟨by omega, by omega, fun hr => ?_⟩
    have hm := Int.mul_ediv_add_emod n d
    have q0 : 0 ≤ n / d := Int.ediv_nonneg (by omega) (by omega)
    have d1 : 1 * (n / d) ≤ d * (n / d) := Int.mul_le_mul_of_nonneg_right hd q0
    omega
end FP

set_option maxHeartbeats 1000000 in
theorem round_yes (n d : Int) (w : World) (hd : 1 ≤ d) (n0 : -9223372036854775808 ≤ n) (n1 : n ≤ 9223372036854775807) (d1 : d ≤ 9223372036854775807) :
    Calls Try.prog 64 #[.int .i64 n, .int .i64 d] w fun e w' => e = .returned (.tuple #[.int .i64 (FP.rnd n d), .bool true]) ∧ Below w.heap.size w w' := by
  obtain ⟨b1, b2, b3⟩ := FP.rnd_bd n d hd n0 n1
  by_cases hn : 0 ≤ n
  · have r1 := Int.emod_lt_of_pos n (show 0 < d by omega)
    have r0 := Int.emod_nonneg n (show d ≠ 0 by omega)
    by_cases hm : d - n % d ≤ n % d
    · have b4 := b3 (by omega)
      clear b3
      have E : Hid (FP.rnd n d = n / d + 1) := if_pos hm
      go_enter Try.func64, Try.ntmps64
      go_wp2
      go_quiet (fail)
      go_wp2
      go_ret2
      exact ⟨ret2 (by have := E.out; omega), below_drewN (by go_grown) _⟩
    · clear b3
      have E : Hid (FP.rnd n d = n / d) := if_neg hm
      go_enter Try.func64, Try.ntmps64
      go_wp2
      go_quiet (fail)
      go_wp2
      go_ret2
      exact ⟨ret2 (by have := E.out; omega), below_drewN (by go_grown) _⟩
  · obtain ⟨s1, s2, s3⟩ := FP.tdiv_bd n d hd n0 n1
    obtain ⟨t1, t2, t3, t4⟩ := FP.tmod_bd n d hd
    have t5 := t3 (by omega)
    by_cases ht : n.tmod d < 0
    · obtain ⟨e, f⟩ := FP.neg_less n d (by omega) hd ht
      have s4 := s3 (by omega) ht
      clear t3 t4 s3 b3
      by_cases hm : d - (n.tmod d + d) ≤ n.tmod d + d
      · have E : Hid (FP.rnd n d = n.tdiv d) := by unfold FP.rnd; rw [e, f, if_pos hm]; show _ = _; omega
        clear e f b1 b2
        go_enter Try.func64, Try.ntmps64
        go_wp2
        go_quiet (fail)
        go_wp2
        go_ret2
        exact ⟨ret2 (by have := E.out; omega), below_drewN (by go_grown) _⟩
      · have E : Hid (FP.rnd n d = n.tdiv d - 1) := by unfold FP.rnd; rw [e, f, if_neg hm]; rfl
        clear e f b1 b2
        go_enter Try.func64, Try.ntmps64
        go_wp2
        go_quiet (fail)
        go_wp2
        go_ret2
        exact ⟨ret2 (by have := E.out; omega), below_drewN (by go_grown) _⟩
    · obtain ⟨e, f⟩ := FP.neg_zero n d (by omega) hd (by omega)
      have E : Hid (FP.rnd n d = n.tdiv d) := by unfold FP.rnd; rw [e, f, if_neg (by omega)]; rfl
      clear e f b1 b2 b3 t3 t4 s3
      go_enter Try.func64, Try.ntmps64
      go_wp2
      go_quiet (fail)
      go_wp2
      go_ret2
      exact ⟨ret2 (by have := E.out; omega), below_drewN (by go_grown) _⟩

set_option maxHeartbeats 400000 in
theorem round_no (n d : Int) (w : World) (hd : d < 1) :
    Calls Try.prog 64 #[.int .i64 n, .int .i64 d] w fun e w' => e = .returned (.tuple #[.int .i64 0, .bool false]) ∧ Below w.heap.size w w' := by
  go_enter Try.func64, Try.ntmps64
  go_wp2
  go_ret2
  exact ⟨rfl, by go_grown⟩

end Go.Proofs.Ytanppbdlcinpfaa.F
end
/- The contracts of the reference's roundings, of remainders that are not negative, and of greatest common divisors, for all int64 that the callers pass. -/
section
namespace Go.Proofs.Ytanppbdlcinpfaa.F
open Go.RowKit

namespace FP
/-- The greatest common divisor. -/
def gc (a b : Int) : Int := (Nat.gcd a.toNat b.toNat : Nat)
theorem gc_zero (x : Nat) : gc (x : Int) (0 : Nat) = x := by unfold gc; simp
theorem gc_step (x y : Nat) : Nat.gcd y (x % y) = Nat.gcd x y := by rw [Nat.gcd_comm y, ← Nat.gcd_rec, Nat.gcd_comm]
theorem modt (n m : Int) (hm : 1 ≤ m) : (n.tmod m + m) % m = n % m ∧ 0 ≤ n.tmod m + m := by
  obtain ⟨t1, t2, t3, t4⟩ := tmod_bd n m hm
  refine ⟨?_, by omega⟩
  by_cases hn : n < 0
  · by_cases ht : n.tmod m < 0
    · obtain ⟨e, f⟩ := neg_less n m hn hm ht
      rw [f, Int.emod_eq_of_lt (by omega) (by omega)]
    · obtain ⟨e, f⟩ := neg_zero n m hn hm (by have := t3 hn; omega)
      have : n.tmod m = 0 := by have := t3 hn; omega
      rw [f, this]; simp
  · have e : n.tmod m = n % m := Int.tmod_eq_emod_of_nonneg (by omega)
    rw [e, Int.add_emod_right, Int.emod_emod]
end FP

set_option maxHeartbeats 1000000 in
theorem rdown_yes (n d : Int) (w : World) (hd : 1 ≤ d) (n0 : -9223372036854775808 ≤ n) (n1 : n ≤ 9223372036854775807) (d1 : d ≤ 9223372036854775807) :
    Calls Try.prog 103 #[.int .i64 n, .int .i64 d] w fun e w' => e = .returned (.tuple #[.int .i64 (n / d), .bool true]) ∧ Below w.heap.size w w' := by
  obtain ⟨b1, b2, b3⟩ := FP.rnd_bd n d hd n0 n1
  clear b3
  by_cases hn : 0 ≤ n
  · have r1 := Int.emod_lt_of_pos n (show 0 < d by omega)
    have r0 := Int.emod_nonneg n (show d ≠ 0 by omega)
    go_enter Try.func103, Try.ntmps103
    go_wp2
    go_ret2
    exact ⟨rfl, by go_grown⟩
  · obtain ⟨s1, s2, s3⟩ := FP.tdiv_bd n d hd n0 n1
    obtain ⟨t1, t2, t3, t4⟩ := FP.tmod_bd n d hd
    have t5 := t3 (by omega)
    by_cases ht : n.tmod d < 0
    · obtain ⟨e, f⟩ := FP.neg_less n d (by omega) hd ht
      have s4 := s3 (by omega) ht
      have E : Hid (n / d = n.tdiv d - 1) := e
      clear t3 t4 s3 b1 b2 e f
      go_enter Try.func103, Try.ntmps103
      go_wp2
      go_ret2
      exact ⟨ret2 (by have := E.out; omega), by go_grown⟩
    · obtain ⟨e, f⟩ := FP.neg_zero n d (by omega) hd (by omega)
      have E : Hid (n / d = n.tdiv d) := e
      clear t3 t4 s3 b1 b2 e f
      go_enter Try.func103, Try.ntmps103
      go_wp2
      go_ret2
      exact ⟨ret2 (by have := E.out; omega), by go_grown⟩

set_option maxHeartbeats 400000 in
theorem rdown_no (n d : Int) (w : World) (hd : d < 1) :
    Calls Try.prog 103 #[.int .i64 n, .int .i64 d] w fun e w' => e = .returned (.tuple #[.int .i64 0, .bool false]) ∧ Below w.heap.size w w' := by
  go_enter Try.func103, Try.ntmps103
  go_wp2
  go_ret2
  exact ⟨rfl, by go_grown⟩

set_option maxHeartbeats 1000000 in
theorem rround_yes (n d : Int) (w : World) (hd : 1 ≤ d) (n0 : -9223372036854775808 ≤ n) (n1 : n ≤ 9223372036854775807) (d1 : d ≤ 9223372036854775807) :
    Calls Try.prog 87 #[.int .i64 n, .int .i64 d] w fun e w' => e = .returned (.tuple #[.int .i64 (FP.rnd n d), .bool true]) ∧ Below w.heap.size w w' := by
  obtain ⟨b1, b2, b3⟩ := FP.rnd_bd n d hd n0 n1
  obtain ⟨t1, t2, t3, t4⟩ := FP.tmod_bd n d hd
  have r1 := Int.emod_lt_of_pos n (show 0 < d by omega)
  have r0 := Int.emod_nonneg n (show d ≠ 0 by omega)
  have key : (0 ≤ n ∧ n.tmod d = n % d) ∨ (n < 0 ∧ n.tmod d < 0 ∧ n % d = n.tmod d + d) ∨ (n < 0 ∧ (0 ≤ n.tmod d ∧ n.tmod d ≤ 0) ∧ n % d = n.tmod d) := by
    by_cases hn : 0 ≤ n
    · exact .inl ⟨hn, Int.tmod_eq_emod_of_nonneg (by omega)⟩
    · have t5 := t3 (by omega)
      by_cases ht : n.tmod d < 0
      · exact .inr (.inl ⟨by omega, ht, (FP.neg_less n d (by omega) hd ht).2⟩)
      · have := (FP.neg_zero n d (by omega) hd (by omega)).2
        exact .inr (.inr ⟨by omega, by omega, by omega⟩)
  have E0 : Hid (FP.rnd n d = if d - n % d ≤ n % d then n / d + 1 else n / d) := rfl
  by_cases hm : d - n % d ≤ n % d
  · have E : Hid (FP.rnd n d = n / d + 1) := if_pos hm
    have b4 := b3 (by omega)
    clear b3 t3 t4
    rcases key with ⟨hn, ht⟩ | ⟨hn, ht, hr⟩ | ⟨hn, ht, hr⟩
    · clear ht
      go_enter Try.func87, Try.ntmps87
      go_wp2_with (go_at_call 103; refine (rdown_yes _ _ _ hd n0 n1 d1).mono ?_; rintro e w' ⟨rfl, hb1⟩)
      go_ret2
      exact ⟨ret2 E.out.symm, by go_grown⟩
    · have hm2 : d - (n.tmod d + d) ≤ n.tmod d + d := by omega
      clear hr hm r1 r0
      go_enter Try.func87, Try.ntmps87
      go_wp2_with (go_at_call 103; refine (rdown_yes _ _ _ hd n0 n1 d1).mono ?_; rintro e w' ⟨rfl, hb1⟩)
      go_ret2
      exact ⟨ret2 E.out.symm, by go_grown⟩
    · exfalso; omega
  · have E : Hid (FP.rnd n d = n / d) := if_neg hm
    clear b3 t3 t4
    rcases key with ⟨hn, ht⟩ | ⟨hn, ht, hr⟩ | ⟨hn, ht, hr⟩
    · clear ht
      go_enter Try.func87, Try.ntmps87
      go_wp2_with (go_at_call 103; refine (rdown_yes _ _ _ hd n0 n1 d1).mono ?_; rintro e w' ⟨rfl, hb1⟩)
      go_ret2
      exact ⟨ret2 E.out.symm, by go_grown⟩
    · have hm2 : ¬ d - (n.tmod d + d) ≤ n.tmod d + d := by omega
      clear hr hm r1 r0
      go_enter Try.func87, Try.ntmps87
      go_wp2_with (go_at_call 103; refine (rdown_yes _ _ _ hd n0 n1 d1).mono ?_; rintro e w' ⟨rfl, hb1⟩)
      go_ret2
      exact ⟨ret2 E.out.symm, by go_grown⟩
    · have hm2 : ¬ d - n.tmod d ≤ n.tmod d := by omega
      have ht0 := ht.1
      clear hr hm r1 r0 ht
      go_enter Try.func87, Try.ntmps87
      go_wp2_with (go_at_call 103; refine (rdown_yes _ _ _ hd n0 n1 d1).mono ?_; rintro e w' ⟨rfl, hb1⟩)
      go_ret2
      exact ⟨ret2 E.out.symm, by go_grown⟩

set_option maxHeartbeats 400000 in
theorem rround_no (n d : Int) (w : World) (hd : d < 1) :
    Calls Try.prog 87 #[.int .i64 n, .int .i64 d] w fun e w' => e = .returned (.tuple #[.int .i64 0, .bool false]) ∧ Below w.heap.size w w' := by
  go_enter Try.func87, Try.ntmps87
  go_wp2_with (go_at_call 103; refine (rdown_no _ _ _ hd).mono ?_; rintro e w' ⟨rfl, hb1⟩)
  go_ret2
  exact ⟨rfl, by go_grown⟩

/-- The remainder that is not negative. -/
theorem mod_any (n m : Int) (w : World) (h0 : 1 ≤ m) (h1 : m ≤ 4611686018427387904) :
    Calls Try.prog 17 #[.int .i64 n, .int .i64 m] w fun e w' => e = .returned (.int .i64 (n % m)) ∧ w' = w := by
  obtain ⟨t1, t2, t3, t4⟩ := FP.tmod_bd n m h0
  obtain ⟨e1, e2⟩ := FP.modt n m h0
  have E : Hid ((n.tmod m + m) % m = n % m) := e1
  have r1 := Int.emod_lt_of_pos n (show 0 < m by omega)
  have r0 := Int.emod_nonneg n (show m ≠ 0 by omega)
  clear t3 t4 e1
  by_cases hn : 0 ≤ n
  · have E' : (n % m + m) % m = n % m := by rw [Int.add_emod_right, Int.emod_emod]
    go_enter Try.func17, Try.ntmps17
    go_wp2
    go_ret
    exact ⟨ret1 E', rfl⟩
  · go_enter Try.func17, Try.ntmps17
    go_wp2
    go_ret
    exact ⟨ret1 (by have := E.out; rw [Int.add_emod_right] at this; exact this), rfl⟩

set_option maxHeartbeats 400000 in
/-- The reference's greatest common divisor. -/
theorem common_any (a b : Int) (w : World) (a0 : 0 ≤ a) (b0 : 0 ≤ b) (a1 : a ≤ 9223372036854775807) (b1 : b ≤ 9223372036854775807) :
    Calls Try.prog 106 #[.int .i64 a, .int .i64 b] w fun e w' => e = .returned (.int .i64 (FP.gc a b)) ∧ Below w.heap.size w w' := by
  obtain ⟨a, rfl⟩ := Int.eq_ofNat_of_zero_le a0
  obtain ⟨b, rfl⟩ := Int.eq_ofNat_of_zero_le b0
  go_enter Try.func106, Try.ntmps106
  go_wp2
  go_loop [0, 1] (fun x y => ∃ p q : Nat, (p : Int) ≤ 9223372036854775807 ∧ (q : Int) ≤ 9223372036854775807 ∧ x = .int .i64 p ∧ y = .int .i64 q ∧ Hid (Nat.gcd p q = Nat.gcd a b)) (fun _ y => (intOf y).toNat)
  case atStart => exact ⟨a, b, a1, b1, rfl, rfl, rfl⟩
  case round =>
    obtain ⟨p, q, p1, q1, rfl, rfl, hg⟩ := hrel
    by_cases hq : 0 < q
    · have m1 : p % q < q := Nat.mod_lt _ hq
      have m2 : ((p : Int) % (q : Int)) = ((p % q : Nat) : Int) := by simp
      have M := hg
      clear hg
      have HM : Hid (((p : Int) % (q : Int)) = ((p % q : Nat) : Int)) := m2
      clear m2
      go_wp2
      go_round
      case rel => exact ⟨q, p % q, by omega, by omega, rfl, by rw [HM.out], by have := M.out; show _ = _; rw [← this]; exact FP.gc_step p q⟩
      case measure => rw [HM.out]; simp [intOf]; omega
    · obtain rfl : q = 0 := by omega
      go_wp2
      go_ret
      exact ⟨ret1 (by have := hg.out; unfold FP.gc; simp at this; simp [this]), Below.refl _ _⟩

set_option maxHeartbeats 400000 in
/-- The program's greatest common divisor. -/
theorem divisor_any (a b : Int) (w : World) (a0 : 0 ≤ a) (b0 : 0 ≤ b) (a1 : a ≤ 9223372036854775807) (b1 : b ≤ 9223372036854775807) :
    Calls Try.prog 92 #[.int .i64 a, .int .i64 b] w fun e w' => e = .returned (.int .i64 (FP.gc a b)) ∧ Below w.heap.size w w' := by
  obtain ⟨a, rfl⟩ := Int.eq_ofNat_of_zero_le a0
  obtain ⟨b, rfl⟩ := Int.eq_ofNat_of_zero_le b0
  go_enter Try.func92, Try.ntmps92
  go_wp2
  go_loopw [0, 1] (fun x y wr => ∃ p q : Nat, (p : Int) ≤ 9223372036854775807 ∧ (q : Int) ≤ 9223372036854775807 ∧ x = .int .i64 p ∧ y = .int .i64 q ∧ Hid (Nat.gcd p q = Nat.gcd a b) ∧ Below w.heap.size w wr) (fun _ y _ => (intOf y).toNat)
  case atStart => exact ⟨a, b, a1, b1, rfl, rfl, rfl, Below.refl _ _⟩
  case round =>
    obtain ⟨p, q, p1, q1, rfl, rfl, hg, hb⟩ := hrel
    by_cases hq : 0 < q
    · have m1 : p % q < q := Nat.mod_lt _ hq
      have HM : Hid (((p : Int) % (q : Int)) = ((p % q : Nat) : Int)) := by show _ = _; simp
      have hz : ((q : Int) != 0) = true := by rw [bne_iff_ne]; omega
      go_wp2
      go_quiet (fail)
      go_wp2
      go_roundw
      case rel => exact ⟨q, p % q, by omega, by omega, rfl, by rw [HM.out], by have := hg.out; show _ = _; rw [← this]; exact FP.gc_step p q, below_drewN hb _⟩
      case measure => rw [HM.out]; simp [intOf]; omega
    · obtain rfl : q = 0 := by omega
      go_wp2
      go_ret
      exact ⟨ret1 (by have := hg.out; unfold FP.gc; simp at this; simp [this]), hb⟩
end Go.Proofs.Ytanppbdlcinpfaa.F
end
/- The contracts of fix.small, fix.right and of the reference's Small and Right: for every int64 they say whether numbers are small, and whether a scalar is right. -/
section
namespace Go.Proofs.Ytanppbdlcinpfaa.F
open Go.RowKit

namespace FP
/-- A number is small. -/
def sm (n : Int) : Prop := -1048576 ≤ n ∧ n ≤ 1048576
instance (n : Int) : Decidable (sm n) := by unfold sm; infer_instance
/-- A scalar is right. -/
structure rgt (n d : Int) : Prop where
  d1 : 1 ≤ d
  d2 : d ≤ 262144
  n0 : 0 ≤ n
  nd : n ≤ d
  g : gc n d = 1
theorem rgt_iff (n d : Int) : rgt n d ↔ (1 ≤ d ∧ d ≤ 262144 ∧ 0 ≤ n ∧ n ≤ d ∧ gc n d = 1) := ⟨fun h => ⟨h.d1, h.d2, h.n0, h.nd, h.g⟩, fun ⟨a, b, c, d, e⟩ => ⟨a, b, c, d, e⟩⟩
instance (n d : Int) : Decidable (rgt n d) := decidable_of_iff _ (rgt_iff n d).symm
end FP

set_option maxHeartbeats 400000 in
theorem small_yes (b off len cap : Nat) (zs : List Int) (w : World) (hm : len ≤ 1000) (hc : ∀ j, j < len → w.cell? ⟨b, off + j, none⟩ = some (.int .i64 (zs.getD j 0))) (hs : ∀ j, j < len → FP.sm (zs.getD j 0)) :
    Calls Try.prog 62 #[.slice (some ⟨b, off, none⟩) len cap] w fun e w' => e = .returned (.bool true) ∧ Below w.heap.size w w' := by
  have HC := Lib.hid hc
  have HS := Lib.hid hs
  clear hc hs
  go_enter Try.func62, Try.ntmps62
  go_wp2
  go_loop [7] (fun i => ∃ k : Nat, k ≤ len ∧ i = .int .i64 k) (fun i => len - (intOf i).toNat)
  case atStart => exact ⟨0, Nat.zero_le _, rfl⟩
  case round =>
    obtain ⟨k, hk, rfl⟩ := hrel
    by_cases hlt : k < len
    · have hcell := HC.out k hlt
      obtain ⟨s1, s2⟩ := HS.out k hlt
      generalize zs.getD k 0 = z at hcell s1 s2
      go_wp2
      go_round
      case rel => exact ⟨k + 1, by omega, by go_num⟩
      case measure => simp [intOf]; omega
    · go_wp2
      go_ret
      exact ⟨rfl, Below.refl _ _⟩

set_option maxHeartbeats 400000 in
theorem small_no (b off len cap : Nat) (zs : List Int) (w : World) (hm : len ≤ 1000) (hc : ∀ j, j < len → w.cell? ⟨b, off + j, none⟩ = some (.int .i64 (zs.getD j 0))) (hs : ∃ j, j < len ∧ ¬ FP.sm (zs.getD j 0)) :
    Calls Try.prog 62 #[.slice (some ⟨b, off, none⟩) len cap] w fun e w' => e = .returned (.bool false) ∧ Below w.heap.size w w' := by
  have HC := Lib.hid hc
  obtain ⟨j, hj, hbad⟩ := hs
  have HB := Lib.hid hbad
  clear hc hbad
  go_enter Try.func62, Try.ntmps62
  go_wp2
  go_loop [7] (fun i => ∃ k : Nat, k ≤ j ∧ i = .int .i64 k) (fun i => len - (intOf i).toNat)
  case atStart => exact ⟨0, Nat.zero_le _, rfl⟩
  case round =>
    obtain ⟨k, hk, rfl⟩ := hrel
    have hlt : k < len := by omega
    have hcell := HC.out k hlt
    by_cases hz : FP.sm (zs.getD k 0)
    · have hne : k < j := by
        rcases Nat.lt_or_ge k j with h | h
        · exact h
        · exact absurd hz (by have : k = j := by omega
                              subst this; exact HB.out)
      obtain ⟨s1, s2⟩ := hz
      generalize zs.getD k 0 = z at hcell s1 s2
      go_wp2
      go_round
      case rel => exact ⟨k + 1, by omega, by go_num⟩
      case measure => simp [intOf]; omega
    · unfold FP.sm at hz
      by_cases hz1 : zs.getD k 0 < -1048576
      · clear hz
        generalize zs.getD k 0 = z at hcell hz1
        go_wp2
        go_ret
        exact ⟨rfl, Below.refl _ _⟩
      · have hz2 : 1048576 < zs.getD k 0 := by omega
        clear hz hz1
        generalize zs.getD k 0 = z at hcell hz2
        go_wp2
        go_ret
        exact ⟨rfl, Below.refl _ _⟩

theorem rsmall_yes (n : Int) (w : World) (h : FP.sm n) :
    Calls Try.prog 82 #[.int .i64 n] w fun e w' => e = .returned (.bool true) ∧ Below w.heap.size w w' := by
  obtain ⟨s1, s2⟩ := h
  go_enter Try.func82, Try.ntmps82
  go_wp2
  go_ret
  exact ⟨rfl, Below.refl _ _⟩
theorem retb {a b : Bool} (h : a = b) : Ending.returned (.bool a) = .returned (.bool b) := by rw [h]
theorem rsmall_no (n : Int) (w : World) (h : ¬ FP.sm n) :
    Calls Try.prog 82 #[.int .i64 n] w fun e w' => e = .returned (.bool false) ∧ Below w.heap.size w w' := by
  unfold FP.sm at h
  by_cases h1 : n < -1048576
  · clear h
    go_enter Try.func82, Try.ntmps82
    go_wp2
    go_ret
    exact ⟨rfl, Below.refl _ _⟩
  · have h2 : 1048576 < n := by omega
    clear h h1
    go_enter Try.func82, Try.ntmps82
    go_wp2
    go_ret
    exact ⟨retb (by simp; omega), Below.refl _ _⟩

set_option maxHeartbeats 400000 in
theorem right_yes (n d : Int) (w : World) (h : FP.rgt n d) :
    Calls Try.prog 63 #[.agg #[.int .i64 n, .int .i64 d]] w fun e w' => e = .returned (.bool true) ∧ Below w.heap.size w w' := by
  obtain ⟨h1, h2, h3, h4, h5⟩ := h
  have hg : (FP.gc n d == 1) = true := by simp [h5]
  clear h5
  go_enter Try.func63, Try.ntmps63
  go_wp2_with (go_at_call 92; refine (divisor_any _ _ _ (by omega) (by omega) (by omega) (by omega)).mono ?_; rintro e w' ⟨rfl, hb1⟩)
  go_ret
  exact ⟨rfl, ((Below.refl _ _).alloc (Nat.le_refl _) _).trans (hb1.mono (by simp))⟩

set_option maxHeartbeats 400000 in
theorem right_no (n d : Int) (w : World) (h : ¬ FP.rgt n d) :
    Calls Try.prog 63 #[.agg #[.int .i64 n, .int .i64 d]] w fun e w' => e = .returned (.bool false) ∧ Below w.heap.size w w' := by
  rw [FP.rgt_iff] at h
  by_cases h1 : 1 ≤ d
  · by_cases h2 : d ≤ 262144
    · by_cases h3 : 0 ≤ n
      · by_cases h4 : n ≤ d
        · have hg : (FP.gc n d == 1) = false := by
            rw [beq_eq_false_iff_ne]; intro h5; exact h ⟨h1, h2, h3, h4, h5⟩
          clear h
          go_enter Try.func63, Try.ntmps63
          go_wp2_with (go_at_call 92; refine (divisor_any _ _ _ (by omega) (by omega) (by omega) (by omega)).mono ?_; rintro e w' ⟨rfl, hb1⟩)
          go_ret
          exact ⟨rfl, ((Below.refl _ _).alloc (Nat.le_refl _) _).trans (hb1.mono (by simp))⟩
        · clear h
          go_enter Try.func63, Try.ntmps63
          go_wp2
          go_ret
          exact ⟨rfl, by go_grown⟩
      · clear h
        go_enter Try.func63, Try.ntmps63
        go_wp2
        go_ret
        exact ⟨rfl, by go_grown⟩
    · clear h
      go_enter Try.func63, Try.ntmps63
      go_wp2
      go_ret
      exact ⟨rfl, by go_grown⟩
  · clear h
    go_enter Try.func63, Try.ntmps63
    go_wp2
    go_ret
    exact ⟨rfl, by go_grown⟩

set_option maxHeartbeats 400000 in
theorem rright_yes (n d : Int) (w : World) (h : FP.rgt n d) :
    Calls Try.prog 100 #[.agg #[.int .i64 n, .int .i64 d]] w fun e w' => e = .returned (.bool true) ∧ Below w.heap.size w w' := by
  obtain ⟨h1, h2, h3, h4, h5⟩ := h
  have hg : (FP.gc n d == 1) = true := by simp [h5]
  clear h5
  go_enter Try.func100, Try.ntmps100
  go_wp2_with (go_at_call 106; refine (common_any _ _ _ (by omega) (by omega) (by omega) (by omega)).mono ?_; rintro e w' ⟨rfl, hb1⟩)
  go_ret
  exact ⟨rfl, ((Below.refl _ _).alloc (Nat.le_refl _) _).trans (hb1.mono (by simp))⟩

set_option maxHeartbeats 400000 in
theorem rright_no (n d : Int) (w : World) (h : ¬ FP.rgt n d) :
    Calls Try.prog 100 #[.agg #[.int .i64 n, .int .i64 d]] w fun e w' => e = .returned (.bool false) ∧ Below w.heap.size w w' := by
  rw [FP.rgt_iff] at h
  by_cases h1 : 1 ≤ d
  · by_cases h2 : d ≤ 262144
    · by_cases h3 : 0 ≤ n
      · by_cases h4 : n ≤ d
        · have hg : (FP.gc n d == 1) = false := by
            rw [beq_eq_false_iff_ne]; intro h5; exact h ⟨h1, h2, h3, h4, h5⟩
          clear h
          go_enter Try.func100, Try.ntmps100
          go_wp2_with (go_at_call 106; refine (common_any _ _ _ (by omega) (by omega) (by omega) (by omega)).mono ?_; rintro e w' ⟨rfl, hb1⟩)
          go_ret
          exact ⟨rfl, ((Below.refl _ _).alloc (Nat.le_refl _) _).trans (hb1.mono (by simp))⟩
        · clear h
          go_enter Try.func100, Try.ntmps100
          go_wp2
          go_ret
          exact ⟨rfl, by go_grown⟩
      · clear h
        go_enter Try.func100, Try.ntmps100
        go_wp2
        go_ret
        exact ⟨rfl, by go_grown⟩
    · clear h
      go_enter Try.func100, Try.ntmps100
      go_wp2
      go_ret
      exact ⟨rfl, by go_grown⟩
  · clear h
    go_enter Try.func100, Try.ntmps100
    go_wp2
    go_ret
    exact ⟨rfl, by go_grown⟩
end Go.Proofs.Ytanppbdlcinpfaa.F
end
/- The contracts of fix.Mul, fix.Part, fix.Line and fix.Clamp and of the reference's: for every int64 they return what the plain functions below say. -/
section
namespace Go.Proofs.Ytanppbdlcinpfaa.F
open Go.RowKit

theorem ret2b {a b : Int} {c d : Bool} (h : a = b) (k : c = d) : Ending.returned (.tuple #[.int .i64 a, .bool c]) = .returned (.tuple #[.int .i64 b, .bool d]) := by rw [h, k]
theorem bnext {w w1 w2 : World} (h : Below w.heap.size w w1) (k : Below w1.heap.size w1 w2) : Below w.heap.size w w2 := h.trans (k.mono h.size)
theorem balloc {w w1 : World} (h : Below w.heap.size w w1) (o : Obj) : Below w.heap.size w (w1.alloc o) := h.alloc h.size o
theorem bset {w w1 : World} (h : Below w.heap.size w w1) {p : Addr} (hp : w.heap.size ≤ p.block) (u : Value) : Below w.heap.size w (w1.setCell p u) := h.setCell hp u
theorem bcell {W w1 : World} (hb : Below W.heap.size W w1) : (∀ b o, b < W.heap.size → w1.cell? ⟨b, o, none⟩ = W.cell? ⟨b, o, none⟩) ∧ (∀ b o, b < W.heap.size → w1.frozen? ⟨b, o, none⟩ = W.frozen? ⟨b, o, none⟩) :=
  ⟨fun b o h => hb.cell (p := ⟨b, o, none⟩) h, fun b o h => hb.frozen (p := ⟨b, o, none⟩) h⟩

namespace FP
/-- The product in 1/64. -/
def mulS (a b : Int) : Int × Bool := if sm a ∧ sm b then (rnd (a * b) 64, true) else (0, false)
/-- The part. -/
def partS (a n d : Int) : Int × Bool := if sm a ∧ rgt n d then (rnd (64 * a * n) d, true) else (0, false)
/-- The line. -/
def lineS (x f0 f1 t0 t1 : Int) : Int × Bool := if (sm x ∧ sm f0 ∧ sm f1 ∧ sm t0 ∧ sm t1) ∧ f0 < t0 ∧ f0 ≤ x ∧ x ≤ t0 then (rnd (f1 * (t0 - f0) + (t1 - f1) * (x - f0)) (t0 - f0), true) else (0, false)
theorem mul_bd (a b x y : Int) (ha : -x ≤ a ∧ a ≤ x) (hb : -y ≤ b ∧ b ≤ y) : -(x * y) ≤ a * b ∧ a * b ≤ x * y := by
  have hx : 0 ≤ x := by omega
  have hy : 0 ≤ y := by omega
  have h1 : (a.natAbs : Int) ≤ x := by omega
  have h2 : (b.natAbs : Int) ≤ y := by omega
  have h3 : (a * b).natAbs = a.natAbs * b.natAbs := Int.natAbs_mul a b
  have h4 : ((a.natAbs : Int)) * (b.natAbs : Int) ≤ x * y := Int.mul_le_mul h1 h2 (by omega) hx
  have h5 : ((a * b).natAbs : Int) ≤ x * y := by rw [h3]; push_cast; simpa using h4
  omega
end FP

set_option maxHeartbeats 400000 in
theorem part_any (a n d : Int) (w : World) :
    Calls Try.prog 25 #[.int .i64 a, .agg #[.int .i64 n, .int .i64 d]] w fun e w' => e = .returned (.tuple #[.int .i64 (FP.partS a n d).1, .bool (FP.partS a n d).2]) ∧ Below w.heap.size w w' := by
  by_cases ha : FP.sm a
  · by_cases hr : FP.rgt n d
    · have E : Hid (FP.partS a n d = (FP.rnd (64 * a * n) d, true)) := if_pos ⟨ha, hr⟩
      have HR := Lib.hid hr
      obtain ⟨r1, r2, r3, r4, r5⟩ := hr
      clear r5
      obtain ⟨m0, m1⟩ := FP.mul_bd (64 * a) n 67108864 262144 (by unfold FP.sm at ha; omega) (by omega)
      have b1 : -67108864 ≤ 64 * a ∧ 64 * a ≤ 67108864 := by unfold FP.sm at ha; omega
      obtain ⟨b1, b2⟩ := b1
      go_enter Try.func25, Try.ntmps25
      go_wp2_with fail
      refine (small_yes _ 0 1 1 [a] _ (by omega) (fun j hj => by
                match j, hj with
                | 0, _ => first | (simp; done) | (rw [World.cell?_alloc_at _ _ _ _ (by simp)]; rfl)) (fun j hj => by
                match j, hj with
                | 0, _ => exact ha)).mono ?_
      rintro e w1 ⟨rfl, hb1⟩
      obtain ⟨hc1, hf1⟩ := bcell hb1
      have hz1 := hb1.size
      (try simp at hz1)
      have hv1 : w.heap.size < w1.heap.size := by omega
      go_wp2_with (first
        | (go_at_call 63; refine (right_yes _ _ _ HR.out).mono ?_; rintro e w2 ⟨rfl, hb2⟩; obtain ⟨hc2, hf2⟩ := bcell hb2; have hz2 := hb2.size; (try simp at hz2); have hv2 : w.heap.size < w2.heap.size := by omega)
        | (go_at_call 64; refine (round_yes _ _ _ (by omega) (by omega) (by omega) (by omega)).mono ?_; rintro e w3 ⟨rfl, hb3⟩; obtain ⟨hc3, hf3⟩ := bcell hb3; have hz3 := hb3.size; (try simp at hz3); have hv3 : w.heap.size < w3.heap.size := by omega))
      go_ret2
      exact ⟨ret2b (by rw [E.out]) (by rw [E.out]), by repeat' (first | exact Below.refl _ _ | (with_reducible assumption) | (refine bnext ?_ (by with_reducible assumption)) | (refine balloc ?_ _) | (refine below_drewN ?_ _) | (refine Below.drew ?_) | (refine bset ?_ (by simp; try omega) _))⟩
    · have E : Hid (FP.partS a n d = (0, false)) := if_neg (fun h => hr h.2)
      go_enter Try.func25, Try.ntmps25
      go_wp2_with fail
      refine (small_yes _ 0 1 1 [a] _ (by omega) (fun j hj => by
                match j, hj with
                | 0, _ => first | (simp; done) | (rw [World.cell?_alloc_at _ _ _ _ (by simp)]; rfl)) (fun j hj => by
                match j, hj with
                | 0, _ => exact ha)).mono ?_
      rintro e w1 ⟨rfl, hb1⟩
      obtain ⟨hc1, hf1⟩ := bcell hb1
      have hz1 := hb1.size
      (try simp at hz1)
      have hv1 : w.heap.size < w1.heap.size := by omega
      go_wp2_with (go_at_call 63; refine (right_no _ _ _ hr).mono ?_; rintro e w2 ⟨rfl, hb2⟩; obtain ⟨hc2, hf2⟩ := bcell hb2; have hz2 := hb2.size; (try simp at hz2); have hv2 : w.heap.size < w2.heap.size := by omega)
      go_ret2
      exact ⟨ret2b (by rw [E.out]) (by rw [E.out]), by repeat' (first | exact Below.refl _ _ | (with_reducible assumption) | (refine bnext ?_ (by with_reducible assumption)) | (refine balloc ?_ _) | (refine below_drewN ?_ _) | (refine Below.drew ?_) | (refine bset ?_ (by simp; try omega) _))⟩
  · have E : Hid (FP.partS a n d = (0, false)) := if_neg (fun h => ha h.1)
    go_enter Try.func25, Try.ntmps25
    go_wp2_with fail
    refine (small_no _ 0 1 1 [a] _ (by omega) (fun j hj => by
              match j, hj with
              | 0, _ => first | (simp; done) | (rw [World.cell?_alloc_at _ _ _ _ (by simp)]; rfl)) ⟨0, by omega, ha⟩).mono ?_
    rintro e w1 ⟨rfl, hb1⟩
    obtain ⟨hc1, hf1⟩ := bcell hb1
    have hz1 := hb1.size
    (try simp at hz1)
    have hv1 : w.heap.size < w1.heap.size := by omega
    go_wp2
    go_ret2
    exact ⟨ret2b (by rw [E.out]) (by rw [E.out]), by repeat' (first | exact Below.refl _ _ | (with_reducible assumption) | (refine bnext ?_ (by with_reducible assumption)) | (refine balloc ?_ _) | (refine below_drewN ?_ _) | (refine Below.drew ?_) | (refine bset ?_ (by simp; try omega) _))⟩

set_option maxHeartbeats 400000 in
theorem rpart_any (a n d : Int) (w : World) :
    Calls Try.prog 83 #[.int .i64 a, .agg #[.int .i64 n, .int .i64 d]] w fun e w' => e = .returned (.tuple #[.int .i64 (FP.partS a n d).1, .bool (FP.partS a n d).2]) ∧ Below w.heap.size w w' := by
  by_cases ha : FP.sm a
  · by_cases hr : FP.rgt n d
    · have E : Hid (FP.partS a n d = (FP.rnd (64 * a * n) d, true)) := if_pos ⟨ha, hr⟩
      have HR := Lib.hid hr
      obtain ⟨r1, r2, r3, r4, r5⟩ := hr
      clear r5
      obtain ⟨m0, m1⟩ := FP.mul_bd (64 * a) n 67108864 262144 (by unfold FP.sm at ha; omega) (by omega)
      have b1 : -67108864 ≤ 64 * a ∧ 64 * a ≤ 67108864 := by unfold FP.sm at ha; omega
      obtain ⟨b1, b2⟩ := b1
      go_enter Try.func83, Try.ntmps83
      go_wp2_with fail
      refine (rsmall_yes _ _ ha).mono ?_
      rintro e w1 ⟨rfl, hb1⟩
      obtain ⟨hc1, hf1⟩ := bcell hb1
      have hz1 := hb1.size
      (try simp at hz1)
      have hv1 : w.heap.size < w1.heap.size := by omega
      go_wp2_with (first
        | (go_at_call 100; refine (rright_yes _ _ _ HR.out).mono ?_; rintro e w2 ⟨rfl, hb2⟩; obtain ⟨hc2, hf2⟩ := bcell hb2; have hz2 := hb2.size; (try simp at hz2); have hv2 : w.heap.size < w2.heap.size := by omega)
        | (go_at_call 87; refine (rround_yes _ _ _ (by omega) (by omega) (by omega) (by omega)).mono ?_; rintro e w3 ⟨rfl, hb3⟩; obtain ⟨hc3, hf3⟩ := bcell hb3; have hz3 := hb3.size; (try simp at hz3); have hv3 : w.heap.size < w3.heap.size := by omega))
      go_ret2
      exact ⟨ret2b (by rw [E.out]) (by rw [E.out]), by repeat' (first | exact Below.refl _ _ | (with_reducible assumption) | (refine bnext ?_ (by with_reducible assumption)) | (refine balloc ?_ _) | (refine below_drewN ?_ _) | (refine Below.drew ?_) | (refine bset ?_ (by simp; try omega) _))⟩
    · have E : Hid (FP.partS a n d = (0, false)) := if_neg (fun h => hr h.2)
      go_enter Try.func83, Try.ntmps83
      go_wp2_with fail
      refine (rsmall_yes _ _ ha).mono ?_
      rintro e w1 ⟨rfl, hb1⟩
      obtain ⟨hc1, hf1⟩ := bcell hb1
      have hz1 := hb1.size
      (try simp at hz1)
      have hv1 : w.heap.size < w1.heap.size := by omega
      go_wp2_with (go_at_call 100; refine (rright_no _ _ _ hr).mono ?_; rintro e w2 ⟨rfl, hb2⟩; obtain ⟨hc2, hf2⟩ := bcell hb2; have hz2 := hb2.size; (try simp at hz2); have hv2 : w.heap.size < w2.heap.size := by omega)
      go_ret2
      exact ⟨ret2b (by rw [E.out]) (by rw [E.out]), by repeat' (first | exact Below.refl _ _ | (with_reducible assumption) | (refine bnext ?_ (by with_reducible assumption)) | (refine balloc ?_ _) | (refine below_drewN ?_ _) | (refine Below.drew ?_) | (refine bset ?_ (by simp; try omega) _))⟩
  · have E : Hid (FP.partS a n d = (0, false)) := if_neg (fun h => ha h.1)
    go_enter Try.func83, Try.ntmps83
    go_wp2_with fail
    refine (rsmall_no _ _ ha).mono ?_
    rintro e w1 ⟨rfl, hb1⟩
    obtain ⟨hc1, hf1⟩ := bcell hb1
    have hz1 := hb1.size
    (try simp at hz1)
    have hv1 : w.heap.size < w1.heap.size := by omega
    go_wp2
    go_ret2
    exact ⟨ret2b (by rw [E.out]) (by rw [E.out]), by repeat' (first | exact Below.refl _ _ | (with_reducible assumption) | (refine bnext ?_ (by with_reducible assumption)) | (refine balloc ?_ _) | (refine below_drewN ?_ _) | (refine Below.drew ?_) | (refine bset ?_ (by simp; try omega) _))⟩

end Go.Proofs.Ytanppbdlcinpfaa.F
end
/- The contracts of fix.Times and of the reference's Times and Made: for every pair of int64 they return what the plain functions below say. -/
section
namespace Go.Proofs.Ytanppbdlcinpfaa.F
open Go.RowKit

namespace FP
/-- The product of two scalars. -/
def timesS (an ad bn bd : Int) : (Int × Int) × Bool :=
  if (rgt an ad ∧ rgt bn bd) ∧ ad * bd / gc (an * bn) (ad * bd) ≤ 262144 then ((an * bn / gc (an * bn) (ad * bd), ad * bd / gc (an * bn) (ad * bd)), true) else ((0, 0), false)

/-- What is left of two numbers, the first not greater than the second, by their greatest common divisor. -/
theorem gc_parts (n d : Int) (h0 : 0 ≤ n) (h1 : n ≤ d) (h2 : 1 ≤ d) :
    1 ≤ gc n d ∧ gc n d ≤ d ∧ 0 ≤ n / gc n d ∧ n / gc n d ≤ d / gc n d ∧ 1 ≤ d / gc n d ∧ d / gc n d ≤ d ∧ gc (n / gc n d) (d / gc n d) = 1 ∧ n / gc n d ≤ n ∧ n / gc n d * gc n d = n ∧ d / gc n d * gc n d = d := by
  obtain ⟨a, rfl⟩ := Int.eq_ofNat_of_zero_le h0
  obtain ⟨b, rfl⟩ := Int.eq_ofNat_of_zero_le (show 0 ≤ d by omega)
  have hb : 0 < b := by omega
  have hg : 0 < Nat.gcd a b := Nat.gcd_pos_of_pos_right _ hb
  have hle : Nat.gcd a b ≤ b := Nat.gcd_le_right _ hb
  have e : gc (a : Int) (b : Int) = ((Nat.gcd a b : Nat) : Int) := by unfold gc; simp
  have c : Nat.gcd (a / Nat.gcd a b) (b / Nat.gcd a b) = 1 := Nat.coprime_div_gcd_div_gcd hg
  have e1 : (a : Int) / ((Nat.gcd a b : Nat) : Int) = ((a / Nat.gcd a b : Nat) : Int) := by simp
  have e2 : (b : Int) / ((Nat.gcd a b : Nat) : Int) = ((b / Nat.gcd a b : Nat) : Int) := by simp
  have l1 : a / Nat.gcd a b ≤ b / Nat.gcd a b := Nat.div_le_div_right (by omega)
  have l2 : 0 < b / Nat.gcd a b := Nat.div_pos hle hg
  have l3 : b / Nat.gcd a b ≤ b := Nat.div_le_self _ _
  have l4 : a / Nat.gcd a b ≤ a := Nat.div_le_self _ _
  have m1 : a / Nat.gcd a b * Nat.gcd a b = a := Nat.div_mul_cancel (Nat.gcd_dvd_left a b)
  have m2 : b / Nat.gcd a b * Nat.gcd a b = b := Nat.div_mul_cancel (Nat.gcd_dvd_right a b)
  rw [e, e1, e2]
  clear e e1 e2
  generalize a / Nat.gcd a b = p at *
  generalize b / Nat.gcd a b = q at *
  generalize Nat.gcd a b = g at *
  refine ⟨by omega, by omega, by omega, by omega, by omega, by omega, ?_, by omega, ?_, ?_⟩
  · unfold gc; simp only [Int.toNat_natCast]; rw [c]; rfl
  · rw [← Int.natCast_mul, m1]
  · rw [← Int.natCast_mul, m2]

/-- The product of the parts of two right scalars. -/
theorem rgt_mul (an ad bn bd : Int) (ha : rgt an ad) (hb : rgt bn bd) : 0 ≤ an * bn ∧ an * bn ≤ ad * bd ∧ 1 ≤ ad * bd ∧ ad * bd ≤ 68719476736 := by
  obtain ⟨a1, a2, a3, a4, _⟩ := ha
  obtain ⟨b1, b2, b3, b4, _⟩ := hb
  have h1 : 0 ≤ an * bn := Int.mul_nonneg a3 b3
  have h2 : an * bn ≤ ad * bd := Int.mul_le_mul a4 b4 b3 (by omega)
  have h3 : 1 * 1 ≤ ad * bd := Int.mul_le_mul a1 b1 (by omega) (by omega)
  have h4 : ad * bd ≤ 262144 * 262144 := Int.mul_le_mul a2 b2 (by omega) (by omega)
  omega
theorem rgt_red (n d : Int) (h0 : 0 ≤ n) (h1 : n ≤ d) (h2 : 1 ≤ d) (h : d / gc n d ≤ 262144) : rgt (n / gc n d) (d / gc n d) := by
  obtain ⟨g1, g2, g3, g4, g5, g6, g7, g8, _⟩ := gc_parts n d h0 h1 h2
  exact ⟨g5, h, g3, g4, g7⟩
/-- The right scalar that two numbers make. -/
def madeN (n d : Int) : Int := (n % (1 + d % 64 + 1)) / gc (n % (1 + d % 64 + 1)) (1 + d % 64)
def madeD (n d : Int) : Int := (1 + d % 64) / gc (n % (1 + d % 64 + 1)) (1 + d % 64)
theorem made_rgt (n d : Int) : rgt (madeN n d) (madeD n d) ∧ madeD n d ≤ 64 := by
  have d0 := Int.emod_nonneg d (show (64 : Int) ≠ 0 by omega)
  have d1 := Int.emod_lt_of_pos d (show (0 : Int) < 64 by omega)
  have n0 := Int.emod_nonneg n (show (1 + d % 64 + 1 : Int) ≠ 0 by omega)
  have n1 := Int.emod_lt_of_pos n (show (0 : Int) < 1 + d % 64 + 1 by omega)
  unfold madeN madeD
  obtain ⟨g1, g2, g3, g4, g5, g6, g7, g8, _⟩ := gc_parts (n % (1 + d % 64 + 1)) (1 + d % 64) n0 (by omega) (by omega)
  exact ⟨⟨g5, by omega, g3, g4, g7⟩, by omega⟩
end FP

theorem bcellD {W w1 : World} {n : Nat} (hb : Below (W.drewN n).heap.size (W.drewN n) w1) : (∀ b o, b < W.heap.size → w1.cell? ⟨b, o, none⟩ = W.cell? ⟨b, o, none⟩) ∧ (∀ b o, b < W.heap.size → w1.frozen? ⟨b, o, none⟩ = W.frozen? ⟨b, o, none⟩) :=
  ⟨fun b o h => hb.cell (p := ⟨b, o, none⟩) h, fun b o h => hb.frozen (p := ⟨b, o, none⟩) h⟩
theorem ret_ag {a b c d : Int} {x y : Bool} (h : a = b) (k : c = d) (l : x = y) : Ending.returned (.tuple #[.agg #[.int .i64 a, .int .i64 c], .bool x]) = .returned (.tuple #[.agg #[.int .i64 b, .int .i64 d], .bool y]) := by rw [h, k, l]
theorem ret_ag1 {a b c d : Int} (h : a = b) (k : c = d) : Ending.returned (.agg #[.int .i64 a, .int .i64 c]) = .returned (.agg #[.int .i64 b, .int .i64 d]) := by rw [h, k]

set_option maxHeartbeats 1000000 in
theorem times_any (an ad bn bd : Int) (w : World) :
    Calls Try.prog 60 #[.agg #[.int .i64 an, .int .i64 ad], .agg #[.int .i64 bn, .int .i64 bd]] w fun e w' => e = .returned (.tuple #[.agg #[.int .i64 (FP.timesS an ad bn bd).1.1, .int .i64 (FP.timesS an ad bn bd).1.2], .bool (FP.timesS an ad bn bd).2]) ∧ Below w.heap.size w w' := by
  by_cases ha : FP.rgt an ad
  · by_cases hb : FP.rgt bn bd
    · obtain ⟨m0, m1, m2, m3⟩ := FP.rgt_mul an ad bn bd ha hb
      obtain ⟨g1, g2, g3, g4, g5, g6, g7, g8, g9⟩ := FP.gc_parts _ _ m0 m1 m2
      clear g7 g9
      by_cases hc : ad * bd / FP.gc (an * bn) (ad * bd) ≤ 262144
      · have HR := Lib.hid (FP.rgt_red _ _ m0 m1 m2 hc)
        have E : Hid (FP.timesS an ad bn bd = ((an * bn / FP.gc (an * bn) (ad * bd), ad * bd / FP.gc (an * bn) (ad * bd)), true)) := if_pos ⟨⟨ha, hb⟩, hc⟩
        go_enter Try.func60, Try.ntmps60
        go_wp2_with fail
        refine (right_yes _ _ _ ha).mono ?_
        rintro e w1 ⟨rfl, hb1⟩
        obtain ⟨hc1, hf1⟩ := bcell hb1
        have hz1 := hb1.size
        (try simp at hz1)
        have hv1 : w.heap.size < w1.heap.size := by omega
        have hu1 : w.heap.size + 1 < w1.heap.size := by omega
        have hx1 : w.heap.size + 1 + 1 < w1.heap.size := by omega
        have hl1 : w.heap.size + 1 + 1 ≤ w1.heap.size := by omega
        go_wp2_with fail
        refine (right_yes _ _ _ hb).mono ?_
        rintro e w2 ⟨rfl, hb2⟩
        obtain ⟨hc2, hf2⟩ := bcell hb2
        have hz2 := hb2.size
        (try simp at hz2)
        have hv2 : w.heap.size < w2.heap.size := by omega
        have hu2 : w.heap.size + 1 < w2.heap.size := by omega
        have hx2 : w.heap.size + 1 + 1 < w2.heap.size := by omega
        have hl2 : w.heap.size + 1 + 1 ≤ w2.heap.size := by omega
        go_wp2_with fail
        go_quiet (fail)
        go_wp2_with fail
        refine (divisor_any _ _ _ (by omega) (by omega) (by omega) (by omega)).mono ?_
        rintro e w3 ⟨rfl, hb3⟩
        obtain ⟨hc3, hf3⟩ := bcellD hb3
        have hz3 := hb3.size
        (try simp at hz3)
        have hv3 : w.heap.size < w3.heap.size := by omega
        have hu3 : w.heap.size + 1 < w3.heap.size := by omega
        have hx3 : w.heap.size + 1 + 1 < w3.heap.size := by omega
        have hl3 : w.heap.size + 1 + 1 ≤ w3.heap.size := by omega
        go_wp2_with fail
        go_region
        go_wp2_with fail
        refine (right_yes _ _ _ HR.out).mono ?_
        rintro e w4 ⟨rfl, hb4⟩
        obtain ⟨hc4, hf4⟩ := bcell hb4
        have hz4 := hb4.size
        (try simp at hz4)
        have hv4 : w.heap.size < w4.heap.size := by omega
        have hu4 : w.heap.size + 1 < w4.heap.size := by omega
        have hx4 : w.heap.size + 1 + 1 < w4.heap.size := by omega
        have hl4 : w.heap.size + 1 + 1 ≤ w4.heap.size := by omega
        go_wp2
        refine bodyPost_ret (v := .tuple #[.agg #[.int .i64 (an * bn / FP.gc (an * bn) (ad * bd)), .int .i64 (ad * bd / FP.gc (an * bn) (ad * bd))], .bool true]) (by simp [results, Try.results60, go_sem, hc1, hx1, hc2, hx2, hc3, hu3, hx3, hc4]) rfl ?_
        exact ⟨ret_ag (by rw [E.out]) (by rw [E.out]) (by rw [E.out]), by repeat' (first | exact Below.refl _ _ | (with_reducible assumption) | (refine bnext ?_ (by with_reducible assumption)) | (refine balloc ?_ _) | (refine below_drewN ?_ _) | (refine Below.drew ?_) | (refine bset ?_ (by simp; try omega) _))⟩
      · have HR := Lib.hid (fun h : FP.rgt (an * bn / FP.gc (an * bn) (ad * bd)) (ad * bd / FP.gc (an * bn) (ad * bd)) => hc h.d2)
        have E : Hid (FP.timesS an ad bn bd = ((0, 0), false)) := if_neg (fun h => hc h.2)
        go_enter Try.func60, Try.ntmps60
        go_wp2_with fail
        refine (right_yes _ _ _ ha).mono ?_
        rintro e w1 ⟨rfl, hb1⟩
        obtain ⟨hc1, hf1⟩ := bcell hb1
        have hz1 := hb1.size
        (try simp at hz1)
        have hv1 : w.heap.size < w1.heap.size := by omega
        have hu1 : w.heap.size + 1 < w1.heap.size := by omega
        have hx1 : w.heap.size + 1 + 1 < w1.heap.size := by omega
        have hl1 : w.heap.size + 1 + 1 ≤ w1.heap.size := by omega
        go_wp2_with fail
        refine (right_yes _ _ _ hb).mono ?_
        rintro e w2 ⟨rfl, hb2⟩
        obtain ⟨hc2, hf2⟩ := bcell hb2
        have hz2 := hb2.size
        (try simp at hz2)
        have hv2 : w.heap.size < w2.heap.size := by omega
        have hu2 : w.heap.size + 1 < w2.heap.size := by omega
        have hx2 : w.heap.size + 1 + 1 < w2.heap.size := by omega
        have hl2 : w.heap.size + 1 + 1 ≤ w2.heap.size := by omega
        go_wp2_with fail
        go_quiet (fail)
        go_wp2_with fail
        refine (divisor_any _ _ _ (by omega) (by omega) (by omega) (by omega)).mono ?_
        rintro e w3 ⟨rfl, hb3⟩
        obtain ⟨hc3, hf3⟩ := bcellD hb3
        have hz3 := hb3.size
        (try simp at hz3)
        have hv3 : w.heap.size < w3.heap.size := by omega
        have hu3 : w.heap.size + 1 < w3.heap.size := by omega
        have hx3 : w.heap.size + 1 + 1 < w3.heap.size := by omega
        have hl3 : w.heap.size + 1 + 1 ≤ w3.heap.size := by omega
        go_wp2_with fail
        go_region
        go_wp2_with fail
        refine (right_no _ _ _ HR.out).mono ?_
        rintro e w4 ⟨rfl, hb4⟩
        obtain ⟨hc4, hf4⟩ := bcell hb4
        have hz4 := hb4.size
        (try simp at hz4)
        have hv4 : w.heap.size < w4.heap.size := by omega
        have hu4 : w.heap.size + 1 < w4.heap.size := by omega
        have hx4 : w.heap.size + 1 + 1 < w4.heap.size := by omega
        have hl4 : w.heap.size + 1 + 1 ≤ w4.heap.size := by omega
        go_wp2
        refine bodyPost_ret (v := .tuple #[.agg #[.int .i64 0, .int .i64 0], .bool false]) (by simp [results, Try.results60, go_sem, hc1, hx1, hc2, hx2, hc3, hu3, hx3, hc4]) rfl ?_
        exact ⟨ret_ag (by rw [E.out]) (by rw [E.out]) (by rw [E.out]), by repeat' (first | exact Below.refl _ _ | (with_reducible assumption) | (refine bnext ?_ (by with_reducible assumption)) | (refine balloc ?_ _) | (refine below_drewN ?_ _) | (refine Below.drew ?_) | (refine bset ?_ (by simp; try omega) _))⟩
    · have E : Hid (FP.timesS an ad bn bd = ((0, 0), false)) := if_neg (fun h => hb h.1.2)
      go_enter Try.func60, Try.ntmps60
      go_wp2_with fail
      refine (right_yes _ _ _ ha).mono ?_
      rintro e w1 ⟨rfl, hb1⟩
      obtain ⟨hc1, hf1⟩ := bcell hb1
      have hz1 := hb1.size
      (try simp at hz1)
      have hv1 : w.heap.size < w1.heap.size := by omega
      have hu1 : w.heap.size + 1 < w1.heap.size := by omega
      have hx1 : w.heap.size + 1 + 1 < w1.heap.size := by omega
      have hl1 : w.heap.size + 1 + 1 ≤ w1.heap.size := by omega
      go_wp2_with fail
      refine (right_no _ _ _ hb).mono ?_
      rintro e w2 ⟨rfl, hb2⟩
      obtain ⟨hc2, hf2⟩ := bcell hb2
      have hz2 := hb2.size
      (try simp at hz2)
      have hv2 : w.heap.size < w2.heap.size := by omega
      have hu2 : w.heap.size + 1 < w2.heap.size := by omega
      have hx2 : w.heap.size + 1 + 1 < w2.heap.size := by omega
      have hl2 : w.heap.size + 1 + 1 ≤ w2.heap.size := by omega
      go_wp2
      refine bodyPost_ret (v := .tuple #[.agg #[.int .i64 0, .int .i64 0], .bool false]) (by simp [results, Try.results60, go_sem, hc1, hx1, hc2]) rfl ?_
      exact ⟨ret_ag (by rw [E.out]) (by rw [E.out]) (by rw [E.out]), by repeat' (first | exact Below.refl _ _ | (with_reducible assumption) | (refine bnext ?_ (by with_reducible assumption)) | (refine balloc ?_ _) | (refine below_drewN ?_ _) | (refine Below.drew ?_) | (refine bset ?_ (by simp; try omega) _))⟩
  · have E : Hid (FP.timesS an ad bn bd = ((0, 0), false)) := if_neg (fun h => ha h.1.1)
    go_enter Try.func60, Try.ntmps60
    go_wp2_with fail
    refine (right_no _ _ _ ha).mono ?_
    rintro e w1 ⟨rfl, hb1⟩
    obtain ⟨hc1, hf1⟩ := bcell hb1
    have hz1 := hb1.size
    (try simp at hz1)
    have hv1 : w.heap.size < w1.heap.size := by omega
    have hu1 : w.heap.size + 1 < w1.heap.size := by omega
    have hx1 : w.heap.size + 1 + 1 < w1.heap.size := by omega
    have hl1 : w.heap.size + 1 + 1 ≤ w1.heap.size := by omega
    go_wp2
    refine bodyPost_ret (v := .tuple #[.agg #[.int .i64 0, .int .i64 0], .bool false]) (by simp [results, Try.results60, go_sem, hc1]) rfl ?_
    exact ⟨ret_ag (by rw [E.out]) (by rw [E.out]) (by rw [E.out]), by repeat' (first | exact Below.refl _ _ | (with_reducible assumption) | (refine bnext ?_ (by with_reducible assumption)) | (refine balloc ?_ _) | (refine below_drewN ?_ _) | (refine Below.drew ?_) | (refine bset ?_ (by simp; try omega) _))⟩

set_option maxHeartbeats 1000000 in
theorem rtimes_any (an ad bn bd : Int) (w : World) :
    Calls Try.prog 101 #[.agg #[.int .i64 an, .int .i64 ad], .agg #[.int .i64 bn, .int .i64 bd]] w fun e w' => e = .returned (.tuple #[.agg #[.int .i64 (FP.timesS an ad bn bd).1.1, .int .i64 (FP.timesS an ad bn bd).1.2], .bool (FP.timesS an ad bn bd).2]) ∧ Below w.heap.size w w' := by
  by_cases ha : FP.rgt an ad
  · by_cases hb : FP.rgt bn bd
    · obtain ⟨m0, m1, m2, m3⟩ := FP.rgt_mul an ad bn bd ha hb
      obtain ⟨g1, g2, g3, g4, g5, g6, g7, g8, g9⟩ := FP.gc_parts _ _ m0 m1 m2
      clear g7 g9
      by_cases hc : ad * bd / FP.gc (an * bn) (ad * bd) ≤ 262144
      · have E : Hid (FP.timesS an ad bn bd = ((an * bn / FP.gc (an * bn) (ad * bd), ad * bd / FP.gc (an * bn) (ad * bd)), true)) := if_pos ⟨⟨ha, hb⟩, hc⟩
        go_enter Try.func101, Try.ntmps101
        go_wp2_with fail
        refine (rright_yes _ _ _ ha).mono ?_
        rintro e w1 ⟨rfl, hb1⟩
        obtain ⟨hc1, hf1⟩ := bcell hb1
        have hz1 := hb1.size
        (try simp at hz1)
        have hv1 : w.heap.size < w1.heap.size := by omega
        have hu1 : w.heap.size + 1 < w1.heap.size := by omega
        have hx1 : w.heap.size + 1 + 1 < w1.heap.size := by omega
        have hl1 : w.heap.size + 1 + 1 ≤ w1.heap.size := by omega
        go_wp2_with fail
        refine (rright_yes _ _ _ hb).mono ?_
        rintro e w2 ⟨rfl, hb2⟩
        obtain ⟨hc2, hf2⟩ := bcell hb2
        have hz2 := hb2.size
        (try simp at hz2)
        have hv2 : w.heap.size < w2.heap.size := by omega
        have hu2 : w.heap.size + 1 < w2.heap.size := by omega
        have hx2 : w.heap.size + 1 + 1 < w2.heap.size := by omega
        have hl2 : w.heap.size + 1 + 1 ≤ w2.heap.size := by omega
        go_wp2_with fail
        refine (common_any _ _ _ (by omega) (by omega) (by omega) (by omega)).mono ?_
        rintro e w3 ⟨rfl, hb3⟩
        obtain ⟨hc3, hf3⟩ := bcell hb3
        have hz3 := hb3.size
        (try simp at hz3)
        have hv3 : w.heap.size < w3.heap.size := by omega
        have hu3 : w.heap.size + 1 < w3.heap.size := by omega
        have hx3 : w.heap.size + 1 + 1 < w3.heap.size := by omega
        have hl3 : w.heap.size + 1 + 1 ≤ w3.heap.size := by omega
        go_wp2_with fail
        go_region
        go_wp2
        refine bodyPost_ret (v := .tuple #[.agg #[.int .i64 (an * bn / FP.gc (an * bn) (ad * bd)), .int .i64 (ad * bd / FP.gc (an * bn) (ad * bd))], .bool true]) (by simp [results, Try.results101, go_sem, hc1, hx1, hc2, hx2, hc3]) rfl ?_
        exact ⟨ret_ag (by rw [E.out]) (by rw [E.out]) (by rw [E.out]), by repeat' (first | exact Below.refl _ _ | (with_reducible assumption) | (refine bnext ?_ (by with_reducible assumption)) | (refine balloc ?_ _) | (refine below_drewN ?_ _) | (refine Below.drew ?_) | (refine bset ?_ (by simp; try omega) _))⟩
      · have E : Hid (FP.timesS an ad bn bd = ((0, 0), false)) := if_neg (fun h => hc h.2)
        go_enter Try.func101, Try.ntmps101
        go_wp2_with fail
        refine (rright_yes _ _ _ ha).mono ?_
        rintro e w1 ⟨rfl, hb1⟩
        obtain ⟨hc1, hf1⟩ := bcell hb1
        have hz1 := hb1.size
        (try simp at hz1)
        have hv1 : w.heap.size < w1.heap.size := by omega
        have hu1 : w.heap.size + 1 < w1.heap.size := by omega
        have hx1 : w.heap.size + 1 + 1 < w1.heap.size := by omega
        have hl1 : w.heap.size + 1 + 1 ≤ w1.heap.size := by omega
        go_wp2_with fail
        refine (rright_yes _ _ _ hb).mono ?_
        rintro e w2 ⟨rfl, hb2⟩
        obtain ⟨hc2, hf2⟩ := bcell hb2
        have hz2 := hb2.size
        (try simp at hz2)
        have hv2 : w.heap.size < w2.heap.size := by omega
        have hu2 : w.heap.size + 1 < w2.heap.size := by omega
        have hx2 : w.heap.size + 1 + 1 < w2.heap.size := by omega
        have hl2 : w.heap.size + 1 + 1 ≤ w2.heap.size := by omega
        go_wp2_with fail
        refine (common_any _ _ _ (by omega) (by omega) (by omega) (by omega)).mono ?_
        rintro e w3 ⟨rfl, hb3⟩
        obtain ⟨hc3, hf3⟩ := bcell hb3
        have hz3 := hb3.size
        (try simp at hz3)
        have hv3 : w.heap.size < w3.heap.size := by omega
        have hu3 : w.heap.size + 1 < w3.heap.size := by omega
        have hx3 : w.heap.size + 1 + 1 < w3.heap.size := by omega
        have hl3 : w.heap.size + 1 + 1 ≤ w3.heap.size := by omega
        go_wp2
        refine bodyPost_ret (v := .tuple #[.agg #[.int .i64 0, .int .i64 0], .bool false]) (by simp [results, Try.results101, go_sem, hc1, hx1, hc2, hx2, hc3]) rfl ?_
        exact ⟨ret_ag (by rw [E.out]) (by rw [E.out]) (by rw [E.out]), by repeat' (first | exact Below.refl _ _ | (with_reducible assumption) | (refine bnext ?_ (by with_reducible assumption)) | (refine balloc ?_ _) | (refine below_drewN ?_ _) | (refine Below.drew ?_) | (refine bset ?_ (by simp; try omega) _))⟩
    · have E : Hid (FP.timesS an ad bn bd = ((0, 0), false)) := if_neg (fun h => hb h.1.2)
      go_enter Try.func101, Try.ntmps101
      go_wp2_with fail
      refine (rright_yes _ _ _ ha).mono ?_
      rintro e w1 ⟨rfl, hb1⟩
      obtain ⟨hc1, hf1⟩ := bcell hb1
      have hz1 := hb1.size
      (try simp at hz1)
      have hv1 : w.heap.size < w1.heap.size := by omega
      have hu1 : w.heap.size + 1 < w1.heap.size := by omega
      have hx1 : w.heap.size + 1 + 1 < w1.heap.size := by omega
      have hl1 : w.heap.size + 1 + 1 ≤ w1.heap.size := by omega
      go_wp2_with fail
      refine (rright_no _ _ _ hb).mono ?_
      rintro e w2 ⟨rfl, hb2⟩
      obtain ⟨hc2, hf2⟩ := bcell hb2
      have hz2 := hb2.size
      (try simp at hz2)
      have hv2 : w.heap.size < w2.heap.size := by omega
      have hu2 : w.heap.size + 1 < w2.heap.size := by omega
      have hx2 : w.heap.size + 1 + 1 < w2.heap.size := by omega
      have hl2 : w.heap.size + 1 + 1 ≤ w2.heap.size := by omega
      go_wp2
      refine bodyPost_ret (v := .tuple #[.agg #[.int .i64 0, .int .i64 0], .bool false]) (by simp [results, Try.results101, go_sem, hc1, hx1, hc2]) rfl ?_
      exact ⟨ret_ag (by rw [E.out]) (by rw [E.out]) (by rw [E.out]), by repeat' (first | exact Below.refl _ _ | (with_reducible assumption) | (refine bnext ?_ (by with_reducible assumption)) | (refine balloc ?_ _) | (refine below_drewN ?_ _) | (refine Below.drew ?_) | (refine bset ?_ (by simp; try omega) _))⟩
  · have E : Hid (FP.timesS an ad bn bd = ((0, 0), false)) := if_neg (fun h => ha h.1.1)
    go_enter Try.func101, Try.ntmps101
    go_wp2_with fail
    refine (rright_no _ _ _ ha).mono ?_
    rintro e w1 ⟨rfl, hb1⟩
    obtain ⟨hc1, hf1⟩ := bcell hb1
    have hz1 := hb1.size
    (try simp at hz1)
    have hv1 : w.heap.size < w1.heap.size := by omega
    have hu1 : w.heap.size + 1 < w1.heap.size := by omega
    have hx1 : w.heap.size + 1 + 1 < w1.heap.size := by omega
    have hl1 : w.heap.size + 1 + 1 ≤ w1.heap.size := by omega
    go_wp2
    refine bodyPost_ret (v := .tuple #[.agg #[.int .i64 0, .int .i64 0], .bool false]) (by simp [results, Try.results101, go_sem, hc1]) rfl ?_
    exact ⟨ret_ag (by rw [E.out]) (by rw [E.out]) (by rw [E.out]), by repeat' (first | exact Below.refl _ _ | (with_reducible assumption) | (refine bnext ?_ (by with_reducible assumption)) | (refine balloc ?_ _) | (refine below_drewN ?_ _) | (refine Below.drew ?_) | (refine bset ?_ (by simp; try omega) _))⟩

end Go.Proofs.Ytanppbdlcinpfaa.F
end
