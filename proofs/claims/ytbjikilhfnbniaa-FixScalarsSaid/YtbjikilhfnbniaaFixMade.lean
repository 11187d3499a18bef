/- The reference's Made, with the world that it leaves written out. -/
import Derived.Test.YtbjikilhfnbniaaFixOpen
namespace Go.Proofs.Ytbjikilhfnbniaa
open Go.RowKit
set_option maxHeartbeats 400000 in
/-- The reference's greatest common divisor leaves the world alone. -/
theorem common_eq (a b : Int) (w : World) (a0 : 0 ≤ a) (b0 : 0 ≤ b) (a1 : a ≤ 9223372036854775807) (b1 : b ≤ 9223372036854775807) :
    Calls Try.prog 37 #[.int .i64 a, .int .i64 b] w fun e w' => e = .returned (.int .i64 (FP.gc a b)) ∧ w' = w := by
  obtain ⟨a, rfl⟩ := Int.eq_ofNat_of_zero_le a0
  obtain ⟨b, rfl⟩ := Int.eq_ofNat_of_zero_le b0
  go_enter Try.func37, Try.ntmps37
  go_wp2
  go_loop [0, 1] (fun x y => ∃ p q : Nat, (p : Int) ≤ 9223372036854775807 ∧ (q : Int) ≤ 9223372036854775807 ∧ x = .int .i64 p ∧ y = .int .i64 q ∧ Hid (Nat.gcd p q = Nat.gcd a b)) (fun _ y => (intOf y).toNat)
  case atStart => exact ⟨a, b, a1, b1, rfl, rfl, rfl⟩
  case round =>
    obtain ⟨p, q, p1, q1, rfl, rfl, hg⟩ := hrel
    by_cases hq : 0 < q
    · have m1 : p % q < q := Nat.mod_lt _ hq
      have m2 : ((p : Int) % (q : Int)) = ((p % q : Nat) : Int) := by simp
      have M := hg
      clear hg
      have HM : Hid (((p : Int) % (q : Int)) = ((p % q : Nat) : Int)) := m2
      clear m2
      go_wp2
      go_round
      case rel => exact ⟨q, p % q, by omega, by omega, rfl, by rw [HM.out], by have := M.out; show _ = _; rw [← this]; exact FP.gc_step p q⟩
      case measure => rw [HM.out]; simp [intOf]; omega
    · obtain rfl : q = 0 := by omega
      go_wp2
      go_ret
      exact ⟨ret1 (by have := hg.out; unfold FP.gc; simp at this; simp [this]), rfl⟩

set_option maxHeartbeats 1000000 in
theorem made_eq (n d : Int) (w : World) :
    Calls Try.prog 23 #[.int .i64 n, .int .i64 d] w fun e w' => e = .returned (.agg #[.int .i64 (FP.madeN n d), .int .i64 (FP.madeD n d)]) ∧ w' = (w.alloc (.cells #[.int .i64 (FP.madeN n d), .int .i64 (FP.madeD n d)] 31)).drew := by
  have d0 := Int.emod_nonneg d (show (64 : Int) ≠ 0 by omega)
  have d1 := Int.emod_lt_of_pos d (show (0 : Int) < 64 by omega)
  have n0 := Int.emod_nonneg n (show (1 + d % 64 + 1 : Int) ≠ 0 by omega)
  have n1 := Int.emod_lt_of_pos n (show (0 : Int) < 1 + d % 64 + 1 by omega)
  obtain ⟨g1, g2, g3, g4, g5, g6, g7, g8, g9⟩ := FP.gc_parts (n % (1 + d % 64 + 1)) (1 + d % 64) n0 (by omega) (by omega)
  clear g7 g9
  have E1 : Hid (FP.madeN n d = (n % (1 + d % 64 + 1)) / FP.gc (n % (1 + d % 64 + 1)) (1 + d % 64)) := rfl
  have E2 : Hid (FP.madeD n d = (1 + d % 64) / FP.gc (n % (1 + d % 64 + 1)) (1 + d % 64)) := rfl
  go_enter Try.func23, Try.ntmps23
  go_wp2_with fail
  refine (mod_any _ _ _ (by omega) (by omega)).mono ?_
  rintro e w1 ⟨rfl, rfl⟩
  go_wp2_with fail
  refine (mod_any _ _ _ (by omega) (by omega)).mono ?_
  rintro e w1 ⟨rfl, rfl⟩
  go_wp2_with fail
  refine (common_eq _ _ _ (by omega) (by omega) (by omega) (by omega)).mono ?_
  rintro e w1 ⟨rfl, rfl⟩
  go_wp2_with fail
  go_region
  go_wp2
  refine bodyPost_ret (v := .agg #[.int .i64 (n % (1 + d % 64 + 1) / FP.gc (n % (1 + d % 64 + 1)) (1 + d % 64)), .int .i64 ((1 + d % 64) / FP.gc (n % (1 + d % 64 + 1)) (1 + d % 64))]) (by simp [results, Try.results23, go_sem]) rfl ?_
  exact ⟨ret_ag1 E1.out.symm E2.out.symm, by rw [E1.out, E2.out]⟩

end Go.Proofs.Ytbjikilhfnbniaa
