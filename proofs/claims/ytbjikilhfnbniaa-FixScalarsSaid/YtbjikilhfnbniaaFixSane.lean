/- The examples of the chapter on roundings hold: the closed function 'sanity' returns true. -/
import Derived.Test.YtbjikilhfnbniaaFixTimes
namespace Go.Proofs.Ytbjikilhfnbniaa
open Go.RowKit

namespace FP
def rndS (n d : Int) : Int × Bool := if 1 ≤ d then (rnd n d, true) else (0, false)
def dwnS (n d : Int) : Int × Bool := if 1 ≤ d then (n / d, true) else (0, false)
def upwS (n d : Int) : Int × Bool := if 1 ≤ d then (upw n d, true) else (0, false)
end FP

theorem round_any (n d : Int) (w : World) (n0 : -9223372036854775808 ≤ n) (n1 : n ≤ 9223372036854775807) (d1 : d ≤ 9223372036854775807) :
    Calls Try.prog 13 #[.int .i64 n, .int .i64 d] w fun e w' => e = .returned (.tuple #[.int .i64 (FP.rndS n d).1, .bool (FP.rndS n d).2]) ∧ Below w.heap.size w w' := by
  by_cases h : 1 ≤ d
  · unfold FP.rndS; rw [if_pos h]; exact round_yes n d w h n0 n1 d1
  · unfold FP.rndS; rw [if_neg h]; exact round_no n d w (by omega)

theorem down_any (n d : Int) (w : World) (n0 : -9223372036854775808 ≤ n) (n1 : n ≤ 9223372036854775807) (d1 : d ≤ 9223372036854775807) :
    Calls Try.prog 14 #[.int .i64 n, .int .i64 d] w fun e w' => e = .returned (.tuple #[.int .i64 (FP.dwnS n d).1, .bool (FP.dwnS n d).2]) ∧ Below w.heap.size w w' := by
  by_cases h : 1 ≤ d
  · unfold FP.dwnS; rw [if_pos h]; exact down_yes n d w h n0 n1 d1
  · unfold FP.dwnS; rw [if_neg h]; exact down_no n d w (by omega)

theorem up_any (n d : Int) (w : World) (n0 : -9223372036854775808 ≤ n) (n1 : n ≤ 9223372036854775807) (d1 : d ≤ 9223372036854775807) :
    Calls Try.prog 15 #[.int .i64 n, .int .i64 d] w fun e w' => e = .returned (.tuple #[.int .i64 (FP.upwS n d).1, .bool (FP.upwS n d).2]) ∧ Below w.heap.size w w' := by
  by_cases h : 1 ≤ d
  · unfold FP.upwS; rw [if_pos h]; exact up_yes n d w h n0 n1 d1
  · unfold FP.upwS; rw [if_neg h]; exact up_no n d w (by omega)

theorem rround_any (n d : Int) (w : World) (n0 : -9223372036854775808 ≤ n) (n1 : n ≤ 9223372036854775807) (d1 : d ≤ 9223372036854775807) :
    Calls Try.prog 16 #[.int .i64 n, .int .i64 d] w fun e w' => e = .returned (.tuple #[.int .i64 (FP.rndS n d).1, .bool (FP.rndS n d).2]) ∧ Below w.heap.size w w' := by
  by_cases h : 1 ≤ d
  · unfold FP.rndS; rw [if_pos h]; exact rround_yes n d w h n0 n1 d1
  · unfold FP.rndS; rw [if_neg h]; exact rround_no n d w (by omega)

theorem rdown_any (n d : Int) (w : World) (n0 : -9223372036854775808 ≤ n) (n1 : n ≤ 9223372036854775807) (d1 : d ≤ 9223372036854775807) :
    Calls Try.prog 17 #[.int .i64 n, .int .i64 d] w fun e w' => e = .returned (.tuple #[.int .i64 (FP.dwnS n d).1, .bool (FP.dwnS n d).2]) ∧ Below w.heap.size w w' := by
  by_cases h : 1 ≤ d
  · unfold FP.dwnS; rw [if_pos h]; exact rdown_yes n d w h n0 n1 d1
  · unfold FP.dwnS; rw [if_neg h]; exact rdown_no n d w (by omega)

theorem rup_any (n d : Int) (w : World) (n0 : -9223372036854775808 ≤ n) (n1 : n ≤ 9223372036854775807) (d1 : d ≤ 9223372036854775807) :
    Calls Try.prog 18 #[.int .i64 n, .int .i64 d] w fun e w' => e = .returned (.tuple #[.int .i64 (FP.upwS n d).1, .bool (FP.upwS n d).2]) ∧ Below w.heap.size w w' := by
  by_cases h : 1 ≤ d
  · unfold FP.upwS; rw [if_pos h]; exact rup_yes n d w h n0 n1 d1
  · unfold FP.upwS; rw [if_neg h]; exact rup_no n d w (by omega)

set_option maxRecDepth 100000 in
set_option maxHeartbeats 2000000 in
theorem sanity_any (w : World) : Calls Try.prog 11 #[] w fun e w' => e = .returned (.bool true) ∧ Below w.heap.size w w' := by
  have acc : Below w.heap.size w w := Below.refl _ _
  have e1 : FP.rndS 7 2 = (4, true) := by decide
  have e2 : FP.rndS (-7) 2 = (-3, true) := by decide
  have e3 : FP.dwnS (-7) 2 = (-4, true) := by decide
  have e4 : FP.upwS (-7) 2 = (-3, true) := by decide
  have e5 : FP.rndS 5 0 = (0, false) := by decide
  have e6 : FP.mulS 96 96 = (144, true) := by decide
  have e7 : FP.mulS (-1) 32 = (0, true) := by decide
  have e8 : FP.mulS 2097152 1 = (0, false) := by decide
  have e9 : FP.partS 10 1 3 = (213, true) := by decide +kernel
  have e10 : FP.partS (-10) 1 3 = (-213, true) := by decide +kernel
  have e11 : FP.timesS 1 2 2 3 = ((1, 3), true) := by decide +kernel
  have e12 : FP.timesS 2 4 1 2 = ((0, 0), false) := by decide +kernel
  have e13 : FP.lineS 5 0 0 10 3 = (2, true) := by decide
  have e14 : FP.lineS 10 0 0 10 3 = (3, true) := by decide
  have e15 : FP.lineS 11 0 0 10 3 = (0, false) := by decide
  go_enter Try.func11, Try.ntmps11
  go_wp2_with (first
    | (go_at_call 13; refine (round_any _ _ _ (by omega) (by omega) (by omega)).mono ?_; rintro e w1 ⟨rfl, hb⟩; have acc1 : Below w.heap.size w w1 := bnext (by repeat' (first | exact Below.refl _ _ | (with_reducible assumption) | (refine bnext ?_ (by with_reducible assumption)) | (refine balloc ?_ _) | (refine below_drewN ?_ _) | (refine Below.drew ?_) | (refine bset ?_ (by simp; try omega) _))) hb; clear hb acc; have acc := acc1; clear acc1)
    | (go_at_call 14; refine (down_any _ _ _ (by omega) (by omega) (by omega)).mono ?_; rintro e w1 ⟨rfl, hb⟩; have acc1 : Below w.heap.size w w1 := bnext (by repeat' (first | exact Below.refl _ _ | (with_reducible assumption) | (refine bnext ?_ (by with_reducible assumption)) | (refine balloc ?_ _) | (refine below_drewN ?_ _) | (refine Below.drew ?_) | (refine bset ?_ (by simp; try omega) _))) hb; clear hb acc; have acc := acc1; clear acc1)
    | (go_at_call 15; refine (up_any _ _ _ (by omega) (by omega) (by omega)).mono ?_; rintro e w1 ⟨rfl, hb⟩; have acc1 : Below w.heap.size w w1 := bnext (by repeat' (first | exact Below.refl _ _ | (with_reducible assumption) | (refine bnext ?_ (by with_reducible assumption)) | (refine balloc ?_ _) | (refine below_drewN ?_ _) | (refine Below.drew ?_) | (refine bset ?_ (by simp; try omega) _))) hb; clear hb acc; have acc := acc1; clear acc1)
    | (go_at_call 19; refine (mul_any _ _ _).mono ?_; rintro e w1 ⟨rfl, hb⟩; have acc1 : Below w.heap.size w w1 := bnext (by repeat' (first | exact Below.refl _ _ | (with_reducible assumption) | (refine bnext ?_ (by with_reducible assumption)) | (refine balloc ?_ _) | (refine below_drewN ?_ _) | (refine Below.drew ?_) | (refine bset ?_ (by simp; try omega) _))) hb; clear hb acc; have acc := acc1; clear acc1)
    | (go_at_call 30; go_in))
  go_wp2_with (first
    | (go_at_call 24; refine (part_any _ _ _ _).mono ?_; rintro e w9 ⟨rfl, hb9⟩; obtain ⟨hc9, hf9⟩ := bcell hb9; have hz9 := hb9.size; (try simp at hz9); have hv9 : w1.heap.size < w9.heap.size := by omega)
    | (go_at_call 26; refine (times_any _ _ _ _ _).mono ?_; rintro e w9 ⟨rfl, hb9⟩; obtain ⟨hc9, hf9⟩ := bcell hb9; have hz9 := hb9.size; (try simp at hz9); have hv9 : w1.heap.size < w9.heap.size := by omega)
    | (go_at_call 28; refine (line_any _ _ _ _ _ _).mono ?_; rintro e w9 ⟨rfl, hb9⟩; obtain ⟨hc9, hf9⟩ := bcell hb9; have hz9 := hb9.size; (try simp at hz9); have hv9 : w1.heap.size < w9.heap.size := by omega)
    | (go_at_call 21; refine (clamp_any _ _ _ _).mono ?_; rintro e w9 ⟨rfl, hb9⟩; obtain ⟨hc9, hf9⟩ := bcell hb9; have hz9 := hb9.size; (try simp at hz9); have hv9 : w1.heap.size < w9.heap.size := by omega)
    | (go_at_call 30; go_in))
  go_ret
  exact ⟨rfl, by repeat' (first | exact Below.refl _ _ | (with_reducible assumption) | (refine bnext ?_ (by with_reducible assumption)) | (refine balloc ?_ _) | (refine below_drewN ?_ _) | (refine Below.drew ?_) | (refine bset ?_ (by simp; try omega) _))⟩
end Go.Proofs.Ytbjikilhfnbniaa
