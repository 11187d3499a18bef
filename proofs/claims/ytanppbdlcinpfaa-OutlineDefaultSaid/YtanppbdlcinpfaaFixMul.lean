/- The contracts of fix.Mul, fix.Part, fix.Line and fix.Clamp and of the reference's: for every int64 they return what the plain functions below say. -/
import Derived.Test.YtanppbdlcinpfaaFixTimes
namespace Go.Proofs.Ytanppbdlcinpfaa.F
open Go.RowKit

theorem mul_any (a b : Int) (w : World) :
    Calls Try.prog 47 #[.int .i64 a, .int .i64 b] w fun e w' => e = .returned (.tuple #[.int .i64 (FP.mulS a b).1, .bool (FP.mulS a b).2]) ∧ Below w.heap.size w w' := by
  by_cases ha : FP.sm a
  · by_cases hb : FP.sm b
    · have E : Hid (FP.mulS a b = (FP.rnd (a * b) 64, true)) := if_pos ⟨ha, hb⟩
      obtain ⟨m0, m1⟩ := FP.mul_bd a b 1048576 1048576 ha hb
      go_enter Try.func47, Try.ntmps47
      go_wp2_with (first
        | (go_at_call 62; refine (small_yes _ 0 2 2 [a, b] _ (by omega) (fun j hj => by
          match j, hj with
          | 0, _ => first | (simp; done) | (rw [World.cell?_alloc_at _ _ _ _ (by simp)]; rfl)
          | 1, _ => first | (simp; done) | (rw [World.cell?_alloc_at _ _ _ _ (by simp)]; rfl)) (fun j hj => by
          match j, hj with
          | 0, _ => exact ha
          | 1, _ => exact hb)).mono ?_; rintro e w1 ⟨rfl, hb1⟩)
        | (go_at_call 64; refine (round_yes _ _ _ (by omega) (by omega) (by omega) (by omega)).mono ?_; rintro e w2 ⟨rfl, hb2⟩))
      go_ret2
      exact ⟨ret2b (by rw [E.out]) (by rw [E.out]), by repeat' (first | exact Below.refl _ _ | (with_reducible assumption) | (refine bnext ?_ (by with_reducible assumption)) | (refine balloc ?_ _) | (refine below_drewN ?_ _) | (refine Below.drew ?_) | (refine bset ?_ (by simp; try omega) _))⟩
    · have E : Hid (FP.mulS a b = (0, false)) := if_neg (fun h => hb h.2)
      go_enter Try.func47, Try.ntmps47
      go_wp2_with (go_at_call 62; refine (small_no _ 0 2 2 [a, b] _ (by omega) (fun j hj => by
          match j, hj with
          | 0, _ => first | (simp; done) | (rw [World.cell?_alloc_at _ _ _ _ (by simp)]; rfl)
          | 1, _ => first | (simp; done) | (rw [World.cell?_alloc_at _ _ _ _ (by simp)]; rfl)) ⟨1, by omega, hb⟩).mono ?_; rintro e w1 ⟨rfl, hb1⟩)
      go_ret2
      exact ⟨ret2b (by rw [E.out]) (by rw [E.out]), by repeat' (first | exact Below.refl _ _ | (with_reducible assumption) | (refine bnext ?_ (by with_reducible assumption)) | (refine balloc ?_ _) | (refine below_drewN ?_ _) | (refine Below.drew ?_) | (refine bset ?_ (by simp; try omega) _))⟩
  · have E : Hid (FP.mulS a b = (0, false)) := if_neg (fun h => ha h.1)
    go_enter Try.func47, Try.ntmps47
    go_wp2_with (go_at_call 62; refine (small_no _ 0 2 2 [a, b] _ (by omega) (fun j hj => by
          match j, hj with
          | 0, _ => first | (simp; done) | (rw [World.cell?_alloc_at _ _ _ _ (by simp)]; rfl)
          | 1, _ => first | (simp; done) | (rw [World.cell?_alloc_at _ _ _ _ (by simp)]; rfl)) ⟨0, by omega, ha⟩).mono ?_; rintro e w1 ⟨rfl, hb1⟩)
    go_ret2
    exact ⟨ret2b (by rw [E.out]) (by rw [E.out]), by repeat' (first | exact Below.refl _ _ | (with_reducible assumption) | (refine bnext ?_ (by with_reducible assumption)) | (refine balloc ?_ _) | (refine below_drewN ?_ _) | (refine Below.drew ?_) | (refine bset ?_ (by simp; try omega) _))⟩

theorem rmul_any (a b : Int) (w : World) :
    Calls Try.prog 49 #[.int .i64 a, .int .i64 b] w fun e w' => e = .returned (.tuple #[.int .i64 (FP.mulS a b).1, .bool (FP.mulS a b).2]) ∧ Below w.heap.size w w' := by
  by_cases ha : FP.sm a
  · by_cases hb : FP.sm b
    · have E : Hid (FP.mulS a b = (FP.rnd (a * b) 64, true)) := if_pos ⟨ha, hb⟩
      obtain ⟨m0, m1⟩ := FP.mul_bd a b 1048576 1048576 ha hb
      go_enter Try.func49, Try.ntmps49
      go_wp2_with fail
      refine (rsmall_yes _ _ ha).mono ?_
      rintro e w1 ⟨rfl, hb1⟩
      go_wp2_with fail
      refine (rsmall_yes _ _ hb).mono ?_
      rintro e w2 ⟨rfl, hb2⟩
      go_wp2_with (go_at_call 87; refine (rround_yes _ _ _ (by omega) (by omega) (by omega) (by omega)).mono ?_; rintro e w3 ⟨rfl, hb3⟩)
      go_ret2
      exact ⟨ret2b (by rw [E.out]) (by rw [E.out]), by repeat' (first | exact Below.refl _ _ | (with_reducible assumption) | (refine bnext ?_ (by with_reducible assumption)) | (refine balloc ?_ _) | (refine below_drewN ?_ _) | (refine Below.drew ?_) | (refine bset ?_ (by simp; try omega) _))⟩
    · have E : Hid (FP.mulS a b = (0, false)) := if_neg (fun h => hb h.2)
      go_enter Try.func49, Try.ntmps49
      go_wp2_with fail
      refine (rsmall_yes _ _ ha).mono ?_
      rintro e w1 ⟨rfl, hb1⟩
      go_wp2_with fail
      refine (rsmall_no _ _ hb).mono ?_
      rintro e w2 ⟨rfl, hb2⟩
      go_wp2
      go_ret2
      exact ⟨ret2b (by rw [E.out]) (by rw [E.out]), by repeat' (first | exact Below.refl _ _ | (with_reducible assumption) | (refine bnext ?_ (by with_reducible assumption)) | (refine balloc ?_ _) | (refine below_drewN ?_ _) | (refine Below.drew ?_) | (refine bset ?_ (by simp; try omega) _))⟩
  · have E : Hid (FP.mulS a b = (0, false)) := if_neg (fun h => ha h.1)
    go_enter Try.func49, Try.ntmps49
    go_wp2_with fail
    refine (rsmall_no _ _ ha).mono ?_
    rintro e w1 ⟨rfl, hb1⟩
    go_wp2
    go_ret2
    exact ⟨ret2b (by rw [E.out]) (by rw [E.out]), by repeat' (first | exact Below.refl _ _ | (with_reducible assumption) | (refine bnext ?_ (by with_reducible assumption)) | (refine balloc ?_ _) | (refine below_drewN ?_ _) | (refine Below.drew ?_) | (refine bset ?_ (by simp; try omega) _))⟩
end Go.Proofs.Ytanppbdlcinpfaa.F
