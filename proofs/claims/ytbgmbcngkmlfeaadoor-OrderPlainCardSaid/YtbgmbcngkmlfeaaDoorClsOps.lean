/- The contracts of the questions on characters, of the program and of the reference. -/
import Derived.Test.YtbgmbcngkmlfeaaDoorClsFind
import Derived.Laws.StructEq
namespace Go.Proofs.YtbgmbcngkmlfeaaDoor
open Go.RowKit

theorem retbb {a b c d : Bool} (h : a = b) (k : c = d) : Ending.returned (.tuple #[.bool a, .bool c]) = .returned (.tuple #[.bool b, .bool d]) := by rw [h, k]

set_option maxHeartbeats 400000 in
theorem within_yes (c lo hi : Int) (w : World) (h0 : lo ≤ c) (h1 : c ≤ hi) :
    Calls Tryd.prog 38 #[.int .i64 c, .int .i64 lo, .int .i64 hi] w fun e w' => e = .returned (.bool true) ∧ w = w' := by
  go_enter Tryd.func38, Tryd.ntmps38
  go_wp2
  go_ret
  exact ⟨rfl, rfl⟩
set_option maxHeartbeats 400000 in
theorem within_no (c lo hi : Int) (w : World) (h : c < lo ∨ hi < c) :
    Calls Tryd.prog 38 #[.int .i64 c, .int .i64 lo, .int .i64 hi] w fun e w' => e = .returned (.bool false) ∧ w = w' := by
  by_cases h0 : lo ≤ c
  · have h1 : ¬ c ≤ hi := by omega
    clear h
    go_enter Tryd.func38, Tryd.ntmps38
    go_wp2
    go_ret
    exact ⟨rfl, rfl⟩
  · clear h
    go_enter Tryd.func38, Tryd.ntmps38
    go_wp2
    go_ret
    exact ⟨rfl, rfl⟩
def inB (c lo hi : Int) : Bool := decide (lo ≤ c ∧ c ≤ hi)
theorem inB_yes {c lo hi : Int} (h : inB c lo hi = true) : lo ≤ c ∧ c ≤ hi := by simpa [inB] using h
theorem inB_no {c lo hi : Int} (h : inB c lo hi = false) : c < lo ∨ hi < c := by simp [inB] at h; omega
theorem within_any (c lo hi : Int) (w : World) :
    Calls Tryd.prog 38 #[.int .i64 c, .int .i64 lo, .int .i64 hi] w fun e w' => e = .returned (.bool (inB c lo hi)) ∧ w = w' := by
  by_cases h : lo ≤ c ∧ c ≤ hi
  · have e : inB c lo hi = true := by simp [inB, h]
    rw [e]; exact within_yes c lo hi w h.1 h.2
  · have e : inB c lo hi = false := by simp [inB]; omega
    rw [e]; exact within_no c lo hi w (by omega)

set_option maxHeartbeats 1000000 in
theorem rclass_any (c : Int) (w : World) :
    Calls Tryd.prog 22 #[.int .i64 c] w fun e w' => e = .returned (.int .i64 (FC.cls c)) ∧ w = w' := by
  go_enter Tryd.func22, Tryd.ntmps22
  go_wp2_with (go_at_call 38; refine (within_any _ _ _ _).mono ?_; rintro e w' ⟨rfl, rfl⟩)
  all_goals
    go_ret
    refine ⟨ret1 ?_, rfl⟩
    simp only [inB, decide_eq_true_eq, decide_eq_false_iff_not, beq_iff_eq, beq_eq_false_iff_ne, Bool.not_eq_true, Classical.not_and_iff_not_or_not] at *
    first
      | exact (FC.cls_10 (by omega)).symm
      | exact (FC.cls_32 (by omega)).symm
      | exact (FC.cls_33 (by omega) (by omega)).symm
      | exact (FC.cls_48 (by omega) (by omega)).symm
      | exact (FC.cls_64 (by omega) (by omega)).symm
      | exact (FC.cls_96 (by omega) (by omega)).symm
      | exact (FC.cls_144 (by omega) (by omega)).symm
      | exact (FC.cls_200 (by omega) (by omega)).symm
      | exact (FC.cls_104 (by omega) (by omega)).symm
      | exact (FC.cls_128 (by omega) (by omega)).symm
      | exact (FC.cls_152 (by omega) (by omega)).symm
      | exact (FC.cls_184 (by omega)).symm
      | exact (FC.cls_185 (by omega) (by omega)).symm
      | exact (FC.cls_192 (by omega) (by omega)).symm
      | exact (FC.cls_240 (by omega)).symm
      | exact (FC.cls_241 (by omega)).symm
      | exact (FC.cls_0 (by omega)).symm

set_option maxHeartbeats 1000000 in
theorem rscript_any (c : Int) (w : World) :
    Calls Tryd.prog 21 #[.int .i64 c] w fun e w' => e = .returned (.int .i64 (FC.scr c)) ∧ w = w' := by
  go_enter Tryd.func21, Tryd.ntmps21
  go_wp2_with (go_at_call 38; refine (within_any _ _ _ _).mono ?_; rintro e w' ⟨rfl, rfl⟩)
  all_goals
    go_ret
    refine ⟨ret1 ?_, rfl⟩
    simp only [inB, decide_eq_true_eq, decide_eq_false_iff_not, beq_iff_eq, beq_eq_false_iff_ne, Bool.not_eq_true, Classical.not_and_iff_not_or_not] at *
    first
      | exact (FC.scr_1 (by omega) (by omega)).symm
      | exact (FC.scr_2 (by omega) (by omega)).symm
      | exact (FC.scr_3 (by omega) (by omega)).symm
      | exact (FC.scr_0 (by omega)).symm

set_option maxHeartbeats 1000000 in
theorem rextends_any (c : Int) (w : World) :
    Calls Tryd.prog 57 #[.int .i64 c] w fun e w' => e = .returned (.bool (FC.extB c)) ∧ w = w' := by
  go_enter Tryd.func57, Tryd.ntmps57
  go_wp2_with (go_at_call 22; refine (rclass_any _ _).mono ?_; rintro e w' ⟨rfl, rfl⟩)
  all_goals
    go_ret
    refine ⟨retb ?_, rfl⟩
    unfold FC.extB
    rw [Bool.eq_iff_iff]
    simp
    try omega

set_option maxHeartbeats 1000000 in
theorem rstrong_any (c : Int) (w : World) :
    Calls Tryd.prog 19 #[.int .i64 c] w fun e w' => e = .returned (.int .i64 (FC.stg c)) ∧ Below w.heap.size w w' := by
  obtain ⟨-, ⟨s0, s3⟩, -, -, -⟩ := FC.props c
  by_cases h3 : FC.cls c = 3
  · have E : Hid (FC.stg c = 3) := if_pos h3
    go_enter Tryd.func19, Tryd.ntmps19
    go_wp2_with (first | (go_at_call 22; refine (rclass_any _ _).mono ?_; rintro e w' ⟨rfl, rfl⟩) | (go_at_call 21; refine (rscript_any _ _).mono ?_; rintro e w' ⟨rfl, rfl⟩))
    go_ret
    exact ⟨ret1 E.out.symm, by go_grown⟩
  · have E : Hid (FC.stg c = if FC.scr c = 2 then 2 else if 0 < FC.scr c then 1 else 0) := if_neg h3
    have hs : FC.scr c = 0 ∨ FC.scr c = 1 ∨ FC.scr c = 2 ∨ FC.scr c = 3 := by omega
    rcases hs with hs | hs | hs | hs
    all_goals
      rw [hs] at E
      go_enter Tryd.func19, Tryd.ntmps19
      go_wp2_with (first | (go_at_call 22; refine (rclass_any _ _).mono ?_; rintro e w' ⟨rfl, rfl⟩) | (go_at_call 21; refine (rscript_any _ _).mono ?_; rintro e w' ⟨rfl, rfl⟩))
      go_ret
      exact ⟨ret1 (by rw [E.out]; rfl), by go_grown⟩
theorem kind_guard (op : BinOp) (x y : Operand) (a b : Array Value) (w : World) : (eqGuard op 64 x y (.agg a) (.agg b)).run Tryd.prog w = .ok () w := run_eqGuard_agg w op _ x y a b (by kernel_rfl)
theorem kind_eql (a b c e : Int) (w : World) : (binOp .eql 64 (.agg #[.int .i64 a, .int .i64 b]) (.agg #[.int .i64 c, .int .i64 e])).run Tryd.prog w = .ok (.bool (a == c && b == e)) w := by
  rw [run_eql_struct, run_equalIn_agg w 9999 _ _ _ (by kernel_rfl) (by kernel_rfl)]
  simp [Program.fieldsOf, Tryd.underlying64, Op.eqFields, part, go_sem]
  by_cases h1 : a = c <;> by_cases h2 : b = e <;> simp [h1, h2]
theorem kf0 (a b : Value) (w : World) : (Instr.field 64 (.agg #[a, b]) 0).run Tryd.prog w = .ok a w := by kernel_rfl
theorem kf1 (a b : Value) (w : World) : (Instr.field 64 (.agg #[a, b]) 1).run Tryd.prog w = .ok b w := by kernel_rfl

set_option maxHeartbeats 400000 in
theorem class_any (c : Int) (g : Nat × Nat) (w : World) (hl : Laid w g) :
    Calls Tryd.prog 32 #[.int .i64 c] w fun e w' => e = .returned (.int .i64 (FC.cls c)) ∧ Below w.heap.size w w' := by
  have hk := kf0
  go_enter Tryd.func32, Tryd.ntmps32
  go_wp2_with (go_at_call 49; refine (find_any _ g _ hl).mono ?_; rintro e w1 ⟨rfl, hb1⟩)
  go_ret
  exact ⟨rfl, by repeat' (first | exact Below.refl _ _ | (with_reducible assumption) | (refine bnext ?_ (by with_reducible assumption)) | (refine balloc ?_ _) | (refine below_drewN ?_ _) | (refine Below.drew ?_) | (refine bset ?_ (by simp; try omega) _))⟩

set_option maxHeartbeats 400000 in
theorem extends_any (c : Int) (g : Nat × Nat) (w : World) (hl : Laid w g) :
    Calls Tryd.prog 55 #[.int .i64 c] w fun e w' => e = .returned (.bool (FC.extB c)) ∧ Below w.heap.size w w' := by
  go_enter Tryd.func55, Tryd.ntmps55
  go_wp2_with (go_at_call 32; refine (class_any _ g _ hl).mono ?_; rintro e w1 ⟨rfl, hb1⟩)
  all_goals
    go_ret
    refine ⟨retb ?_, by repeat' (first | exact Below.refl _ _ | (with_reducible assumption) | (refine bnext ?_ (by with_reducible assumption)) | (refine balloc ?_ _) | (refine below_drewN ?_ _) | (refine Below.drew ?_) | (refine bset ?_ (by simp; try omega) _))⟩
    unfold FC.extB
    rw [Bool.eq_iff_iff]
    simp only [beq_iff_eq, beq_eq_false_iff_ne, ne_eq, decide_eq_true_eq] at *
    simp
    try omega

set_option maxHeartbeats 400000 in
theorem strong_any (c : Int) (g : Nat × Nat) (w : World) (hl : Laid w g) :
    Calls Tryd.prog 42 #[.int .i64 c] w fun e w' => e = .returned (.int .i64 (FC.stg c)) ∧ Below w.heap.size w w' := by
  go_enter Tryd.func42, Tryd.ntmps42
  go_wp2_with (go_at_call 49; refine (find_any _ g _ hl).mono ?_; rintro e w1 ⟨rfl, hb1⟩)
  all_goals
    go_ret
    refine ⟨ret1 ?_, by repeat' (first | exact Below.refl _ _ | (with_reducible assumption) | (refine bnext ?_ (by with_reducible assumption)) | (refine balloc ?_ _) | (refine below_drewN ?_ _) | (refine Below.drew ?_) | (refine bset ?_ (by simp; try omega) _))⟩
    unfold FC.stg
    simp only [beq_iff_eq, beq_eq_false_iff_ne, ne_eq] at *
    repeat' split
    all_goals (first | rfl | (simp_all; done) | omega)

end Go.Proofs.YtbgmbcngkmlfeaaDoor
