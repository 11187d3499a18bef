/- The contracts of the reference's questions on characters: for every number they return the class, the script and the strength that the table says. -/
import Derived.Test.YteiacgonbmjgiaaDoorChrFind
namespace Go.Proofs.YteiacgonbmjgiaaDoor
open Go.RowKit

theorem ret1 {a b : Int} (h : a = b) : Ending.returned (.int .i64 a) = .returned (.int .i64 b) := by rw [h]
theorem retb {a b : Bool} (h : a = b) : Ending.returned (.bool a) = .returned (.bool b) := by rw [h]
theorem retbb {a b c d : Bool} (h : a = b) (k : c = d) : Ending.returned (.tuple #[.bool a, .bool c]) = .returned (.tuple #[.bool b, .bool d]) := by rw [h, k]

set_option maxHeartbeats 400000 in
theorem within_yes (c lo hi : Int) (w : World) (h0 : lo ≤ c) (h1 : c ≤ hi) :
    Calls Tryd.prog 23 #[.int .i64 c, .int .i64 lo, .int .i64 hi] w fun e w' => e = .returned (.bool true) ∧ w = w' := by
  go_enter Tryd.func23, Tryd.ntmps23
  go_wp2
  go_ret
  exact ⟨rfl, rfl⟩
set_option maxHeartbeats 400000 in
theorem within_no (c lo hi : Int) (w : World) (h : c < lo ∨ hi < c) :
    Calls Tryd.prog 23 #[.int .i64 c, .int .i64 lo, .int .i64 hi] w fun e w' => e = .returned (.bool false) ∧ w = w' := by
  by_cases h0 : lo ≤ c
  · have h1 : ¬ c ≤ hi := by omega
    clear h
    go_enter Tryd.func23, Tryd.ntmps23
    go_wp2
    go_ret
    exact ⟨rfl, rfl⟩
  · clear h
    go_enter Tryd.func23, Tryd.ntmps23
    go_wp2
    go_ret
    exact ⟨rfl, rfl⟩
def inB (c lo hi : Int) : Bool := decide (lo ≤ c ∧ c ≤ hi)
theorem inB_yes {c lo hi : Int} (h : inB c lo hi = true) : lo ≤ c ∧ c ≤ hi := by simpa [inB] using h
theorem inB_no {c lo hi : Int} (h : inB c lo hi = false) : c < lo ∨ hi < c := by simp [inB] at h; omega
theorem within_any (c lo hi : Int) (w : World) :
    Calls Tryd.prog 23 #[.int .i64 c, .int .i64 lo, .int .i64 hi] w fun e w' => e = .returned (.bool (inB c lo hi)) ∧ w = w' := by
  by_cases h : lo ≤ c ∧ c ≤ hi
  · have e : inB c lo hi = true := by simp [inB, h]
    rw [e]; exact within_yes c lo hi w h.1 h.2
  · have e : inB c lo hi = false := by simp [inB]; omega
    rw [e]; exact within_no c lo hi w (by omega)

set_option maxHeartbeats 1000000 in
theorem rclass_any (c : Int) (w : World) :
    Calls Tryd.prog 12 #[.int .i64 c] w fun e w' => e = .returned (.int .i64 (FC.cls c)) ∧ w = w' := by
  go_enter Tryd.func12, Tryd.ntmps12
  go_wp2_with (go_at_call 23; refine (within_any _ _ _ _).mono ?_; rintro e w' ⟨rfl, rfl⟩)
  all_goals
    go_ret
    refine ⟨ret1 ?_, rfl⟩
    simp only [inB, decide_eq_true_eq, decide_eq_false_iff_not, beq_iff_eq, beq_eq_false_iff_ne, Bool.not_eq_true, Classical.not_and_iff_not_or_not] at *
    first
      | exact (FC.cls_10 (by omega)).symm
      | exact (FC.cls_32 (by omega)).symm
      | exact (FC.cls_33 (by omega) (by omega)).symm
      | exact (FC.cls_48 (by omega) (by omega)).symm
      | exact (FC.cls_64 (by omega) (by omega)).symm
      | exact (FC.cls_96 (by omega) (by omega)).symm
      | exact (FC.cls_144 (by omega) (by omega)).symm
      | exact (FC.cls_200 (by omega) (by omega)).symm
      | exact (FC.cls_104 (by omega) (by omega)).symm
      | exact (FC.cls_128 (by omega) (by omega)).symm
      | exact (FC.cls_152 (by omega) (by omega)).symm
      | exact (FC.cls_184 (by omega)).symm
      | exact (FC.cls_185 (by omega) (by omega)).symm
      | exact (FC.cls_192 (by omega) (by omega)).symm
      | exact (FC.cls_240 (by omega)).symm
      | exact (FC.cls_241 (by omega)).symm
      | exact (FC.cls_0 (by omega)).symm

set_option maxHeartbeats 1000000 in
theorem rscript_any (c : Int) (w : World) :
    Calls Tryd.prog 13 #[.int .i64 c] w fun e w' => e = .returned (.int .i64 (FC.scr c)) ∧ w = w' := by
  go_enter Tryd.func13, Tryd.ntmps13
  go_wp2_with (go_at_call 23; refine (within_any _ _ _ _).mono ?_; rintro e w' ⟨rfl, rfl⟩)
  all_goals
    go_ret
    refine ⟨ret1 ?_, rfl⟩
    simp only [inB, decide_eq_true_eq, decide_eq_false_iff_not, beq_iff_eq, beq_eq_false_iff_ne, Bool.not_eq_true, Classical.not_and_iff_not_or_not] at *
    first
      | exact (FC.scr_1 (by omega) (by omega)).symm
      | exact (FC.scr_2 (by omega) (by omega)).symm
      | exact (FC.scr_3 (by omega) (by omega)).symm
      | exact (FC.scr_0 (by omega)).symm

set_option maxHeartbeats 1000000 in
theorem rjoins_any (c : Int) (w : World) :
    Calls Tryd.prog 10 #[.int .i64 c] w fun e w' => e = .returned (.tuple #[.bool (FC.joinB c), .bool (FC.dualB c)]) ∧ w = w' := by
  go_enter Tryd.func10, Tryd.ntmps10
  go_wp2_with (go_at_call 12; refine (rclass_any _ _).mono ?_; rintro e w' ⟨rfl, rfl⟩)
  all_goals
    go_ret2
    refine ⟨retbb ?_ ?_, rfl⟩
    · unfold FC.joinB
      rw [Bool.eq_iff_iff]
      simp
      try omega
    · unfold FC.dualB
      rw [Bool.eq_iff_iff]
      simp
      try omega

set_option maxHeartbeats 1000000 in
theorem rextends_any (c : Int) (w : World) :
    Calls Tryd.prog 15 #[.int .i64 c] w fun e w' => e = .returned (.bool (FC.extB c)) ∧ w = w' := by
  go_enter Tryd.func15, Tryd.ntmps15
  go_wp2_with (go_at_call 12; refine (rclass_any _ _).mono ?_; rintro e w' ⟨rfl, rfl⟩)
  all_goals
    go_ret
    refine ⟨retb ?_, rfl⟩
    unfold FC.extB
    rw [Bool.eq_iff_iff]
    simp
    try omega

set_option maxHeartbeats 1000000 in
theorem rstrong_any (c : Int) (w : World) :
    Calls Tryd.prog 14 #[.int .i64 c] w fun e w' => e = .returned (.int .i64 (FC.stg c)) ∧ Below w.heap.size w w' := by
  obtain ⟨-, ⟨s0, s3⟩, -, -, -⟩ := FC.props c
  by_cases h3 : FC.cls c = 3
  · have E : Hid (FC.stg c = 3) := if_pos h3
    go_enter Tryd.func14, Tryd.ntmps14
    go_wp2_with (first | (go_at_call 12; refine (rclass_any _ _).mono ?_; rintro e w' ⟨rfl, rfl⟩) | (go_at_call 13; refine (rscript_any _ _).mono ?_; rintro e w' ⟨rfl, rfl⟩))
    go_ret
    exact ⟨ret1 E.out.symm, by go_grown⟩
  · have E : Hid (FC.stg c = if FC.scr c = 2 then 2 else if 0 < FC.scr c then 1 else 0) := if_neg h3
    have hs : FC.scr c = 0 ∨ FC.scr c = 1 ∨ FC.scr c = 2 ∨ FC.scr c = 3 := by omega
    rcases hs with hs | hs | hs | hs
    all_goals
      rw [hs] at E
      go_enter Tryd.func14, Tryd.ntmps14
      go_wp2_with (first | (go_at_call 12; refine (rclass_any _ _).mono ?_; rintro e w' ⟨rfl, rfl⟩) | (go_at_call 13; refine (rscript_any _ _).mono ?_; rintro e w' ⟨rfl, rfl⟩))
      go_ret
      exact ⟨ret1 (by rw [E.out]; rfl), by go_grown⟩
end Go.Proofs.YteiacgonbmjgiaaDoor
