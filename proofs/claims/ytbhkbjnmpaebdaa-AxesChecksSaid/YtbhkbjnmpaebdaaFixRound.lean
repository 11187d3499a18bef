/- The contracts of fix.Round, fix.Down and fix.Up and of the reference's: for every int64 they return the rounded quotient, or 0 and false for a divisor below 1. -/
import Derived.Test.YtbhkbjnmpaebdaaRows
import Derived.Test.YtbhkbjnmpaebdaaFixPlain
import Derived.Handy
import Derived.BigQuiet
import Derived.Deep.QuietTactic
import Derived.Laws.EntriesVeiled
import Derived.WalkSmall
namespace Go.Proofs.Ytbhkbjnmpaebdaa.F
open Go.RowKit

theorem ret2 {a b : Int} {c : Bool} (h : a = b) : Ending.returned (.tuple #[.int .i64 a, .bool c]) = .returned (.tuple #[.int .i64 b, .bool c]) := by rw [h]
theorem ret1 {a b : Int} (h : a = b) : Ending.returned (.int .i64 a) = .returned (.int .i64 b) := by rw [h]

def lo64 (n : Int) : Prop := -9223372036854775808 ≤ n ∧ n ≤ 9223372036854775807

namespace FP
theorem rnd_bd (n d : Int) (hd : 1 ≤ d) (h0 : -9223372036854775808 ≤ n) (h1 : n ≤ 9223372036854775807) :
    n / d ≤ 9223372036854775807 ∧ -9223372036854775808 ≤ n / d ∧ (0 < n % d → n / d + 1 ≤ 9223372036854775807) := by
  obtain ⟨a, b, c⟩ := tdiv_bd n d hd h0 h1
  obtain ⟨t1, t2, t3, t4⟩ := tmod_bd n d hd
  by_cases hn : n < 0
  · by_cases ht : n.tmod d < 0
    · obtain ⟨e, f⟩ := neg_less n d hn hd ht
      have := c hn ht
      omega
    · obtain ⟨e, f⟩ := neg_zero n d hn hd (by have := t3 hn; omega)
      omega
  · have e : n.tdiv d = n / d := Int.tdiv_eq_ediv_of_nonneg (by omega)
    refine ⟨by omega, by omega, fun hr => ?_⟩
    have hm := Int.mul_ediv_add_emod n d
    have q0 : 0 ≤ n / d := Int.ediv_nonneg (by omega) (by omega)
    have d1 : 1 * (n / d) ≤ d * (n / d) := Int.mul_le_mul_of_nonneg_right hd q0
    omega
end FP

set_option maxHeartbeats 1000000 in
theorem round_yes (n d : Int) (w : World) (hd : 1 ≤ d) (n0 : -9223372036854775808 ≤ n) (n1 : n ≤ 9223372036854775807) (d1 : d ≤ 9223372036854775807) :
    Calls Try.prog 52 #[.int .i64 n, .int .i64 d] w fun e w' => e = .returned (.tuple #[.int .i64 (FP.rnd n d), .bool true]) ∧ Below w.heap.size w w' := by
  obtain ⟨b1, b2, b3⟩ := FP.rnd_bd n d hd n0 n1
  by_cases hn : 0 ≤ n
  · have r1 := Int.emod_lt_of_pos n (show 0 < d by omega)
    have r0 := Int.emod_nonneg n (show d ≠ 0 by omega)
    by_cases hm : d - n % d ≤ n % d
    · have b4 := b3 (by omega)
      clear b3
      have E : Hid (FP.rnd n d = n / d + 1) := if_pos hm
      go_enter Try.func52, Try.ntmps52
      go_wp2
      go_quiet (fail)
      go_wp2
      go_ret2
      exact ⟨ret2 (by have := E.out; omega), below_drewN (by go_grown) _⟩
    · clear b3
      have E : Hid (FP.rnd n d = n / d) := if_neg hm
      go_enter Try.func52, Try.ntmps52
      go_wp2
      go_quiet (fail)
      go_wp2
      go_ret2
      exact ⟨ret2 (by have := E.out; omega), below_drewN (by go_grown) _⟩
  · obtain ⟨s1, s2, s3⟩ := FP.tdiv_bd n d hd n0 n1
    obtain ⟨t1, t2, t3, t4⟩ := FP.tmod_bd n d hd
    have t5 := t3 (by omega)
    by_cases ht : n.tmod d < 0
    · obtain ⟨e, f⟩ := FP.neg_less n d (by omega) hd ht
      have s4 := s3 (by omega) ht
      clear t3 t4 s3 b3
      by_cases hm : d - (n.tmod d + d) ≤ n.tmod d + d
      · have E : Hid (FP.rnd n d = n.tdiv d) := by unfold FP.rnd; rw [e, f, if_pos hm]; show _ = _; omega
        clear e f b1 b2
        go_enter Try.func52, Try.ntmps52
        go_wp2
        go_quiet (fail)
        go_wp2
        go_ret2
        exact ⟨ret2 (by have := E.out; omega), below_drewN (by go_grown) _⟩
      · have E : Hid (FP.rnd n d = n.tdiv d - 1) := by unfold FP.rnd; rw [e, f, if_neg hm]; rfl
        clear e f b1 b2
        go_enter Try.func52, Try.ntmps52
        go_wp2
        go_quiet (fail)
        go_wp2
        go_ret2
        exact ⟨ret2 (by have := E.out; omega), below_drewN (by go_grown) _⟩
    · obtain ⟨e, f⟩ := FP.neg_zero n d (by omega) hd (by omega)
      have E : Hid (FP.rnd n d = n.tdiv d) := by unfold FP.rnd; rw [e, f, if_neg (by omega)]; rfl
      clear e f b1 b2 b3 t3 t4 s3
      go_enter Try.func52, Try.ntmps52
      go_wp2
      go_quiet (fail)
      go_wp2
      go_ret2
      exact ⟨ret2 (by have := E.out; omega), below_drewN (by go_grown) _⟩

set_option maxHeartbeats 400000 in
theorem round_no (n d : Int) (w : World) (hd : d < 1) :
    Calls Try.prog 52 #[.int .i64 n, .int .i64 d] w fun e w' => e = .returned (.tuple #[.int .i64 0, .bool false]) ∧ Below w.heap.size w w' := by
  go_enter Try.func52, Try.ntmps52
  go_wp2
  go_ret2
  exact ⟨rfl, by go_grown⟩

end Go.Proofs.Ytbhkbjnmpaebdaa.F
