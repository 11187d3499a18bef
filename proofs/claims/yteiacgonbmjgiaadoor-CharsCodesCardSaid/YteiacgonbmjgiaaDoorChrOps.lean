/- The contracts of chars.Class, Script, Strong, Joins and Extends: over the table as the program lays it they return what the plain functions say, for every number. -/
import Derived.Test.YteiacgonbmjgiaaDoorChrRef
import Derived.Laws.StructEq
namespace Go.Proofs.YteiacgonbmjgiaaDoor
open Go.RowKit

/-! Two values of the type 'kind', compared field by field; its two fields. -/
theorem kind_guard (op : BinOp) (x y : Operand) (a b : Array Value) (w : World) : (eqGuard op 33 x y (.agg a) (.agg b)).run Tryd.prog w = .ok () w := run_eqGuard_agg w op _ x y a b (by kernel_rfl)
theorem kind_eql (a b c e : Int) (w : World) : (binOp .eql 33 (.agg #[.int .i64 a, .int .i64 b]) (.agg #[.int .i64 c, .int .i64 e])).run Tryd.prog w = .ok (.bool (a == c && b == e)) w := by
  rw [run_eql_struct, run_equalIn_agg w 9999 _ _ _ (by kernel_rfl) (by kernel_rfl)]
  simp [Program.fieldsOf, Tryd.underlying33, Op.eqFields, part, go_sem]
  by_cases h1 : a = c <;> by_cases h2 : b = e <;> simp [h1, h2]
theorem kf0 (a b : Value) (w : World) : (Instr.field 33 (.agg #[a, b]) 0).run Tryd.prog w = .ok a w := by kernel_rfl
theorem kf1 (a b : Value) (w : World) : (Instr.field 33 (.agg #[a, b]) 1).run Tryd.prog w = .ok b w := by kernel_rfl

set_option maxHeartbeats 400000 in
theorem class_any (c : Int) (g : Nat × Nat) (w : World) (hl : Laid w g) :
    Calls Tryd.prog 19 #[.int .i64 c] w fun e w' => e = .returned (.int .i64 (FC.cls c)) ∧ Below w.heap.size w w' := by
  have hk := kf0
  go_enter Tryd.func19, Tryd.ntmps19
  go_wp2_with (go_at_call 22; refine (find_any _ g _ hl).mono ?_; rintro e w1 ⟨rfl, hb1⟩)
  go_ret
  exact ⟨rfl, by repeat' (first | exact Below.refl _ _ | (with_reducible assumption) | (refine bnext ?_ (by with_reducible assumption)) | (refine balloc ?_ _) | (refine below_drewN ?_ _) | (refine Below.drew ?_) | (refine bset ?_ (by simp; try omega) _))⟩

set_option maxHeartbeats 400000 in
theorem script_any (c : Int) (g : Nat × Nat) (w : World) (hl : Laid w g) :
    Calls Tryd.prog 18 #[.int .i64 c] w fun e w' => e = .returned (.int .i64 (FC.scr c)) ∧ Below w.heap.size w w' := by
  have hk := kf1
  go_enter Tryd.func18, Tryd.ntmps18
  go_wp2_with (go_at_call 22; refine (find_any _ g _ hl).mono ?_; rintro e w1 ⟨rfl, hb1⟩)
  go_ret
  exact ⟨rfl, by repeat' (first | exact Below.refl _ _ | (with_reducible assumption) | (refine bnext ?_ (by with_reducible assumption)) | (refine balloc ?_ _) | (refine below_drewN ?_ _) | (refine Below.drew ?_) | (refine bset ?_ (by simp; try omega) _))⟩

set_option maxHeartbeats 400000 in
theorem extends_any (c : Int) (g : Nat × Nat) (w : World) (hl : Laid w g) :
    Calls Tryd.prog 21 #[.int .i64 c] w fun e w' => e = .returned (.bool (FC.extB c)) ∧ Below w.heap.size w w' := by
  go_enter Tryd.func21, Tryd.ntmps21
  go_wp2_with (go_at_call 19; refine (class_any _ g _ hl).mono ?_; rintro e w1 ⟨rfl, hb1⟩)
  all_goals
    go_ret
    refine ⟨retb ?_, by repeat' (first | exact Below.refl _ _ | (with_reducible assumption) | (refine bnext ?_ (by with_reducible assumption)) | (refine balloc ?_ _) | (refine below_drewN ?_ _) | (refine Below.drew ?_) | (refine bset ?_ (by simp; try omega) _))⟩
    unfold FC.extB
    rw [Bool.eq_iff_iff]
    simp only [beq_iff_eq, beq_eq_false_iff_ne, ne_eq, decide_eq_true_eq] at *
    simp
    try omega

set_option maxHeartbeats 400000 in
theorem strong_any (c : Int) (g : Nat × Nat) (w : World) (hl : Laid w g) :
    Calls Tryd.prog 20 #[.int .i64 c] w fun e w' => e = .returned (.int .i64 (FC.stg c)) ∧ Below w.heap.size w w' := by
  go_enter Tryd.func20, Tryd.ntmps20
  go_wp2_with (go_at_call 22; refine (find_any _ g _ hl).mono ?_; rintro e w1 ⟨rfl, hb1⟩)
  all_goals
    go_ret
    refine ⟨ret1 ?_, by repeat' (first | exact Below.refl _ _ | (with_reducible assumption) | (refine bnext ?_ (by with_reducible assumption)) | (refine balloc ?_ _) | (refine below_drewN ?_ _) | (refine Below.drew ?_) | (refine bset ?_ (by simp; try omega) _))⟩
    unfold FC.stg
    simp only [beq_iff_eq, beq_eq_false_iff_ne, ne_eq] at *
    repeat' split
    all_goals (first | rfl | (simp_all; done) | omega)

set_option maxHeartbeats 400000 in
theorem joins_any (c : Int) (g : Nat × Nat) (w : World) (hl : Laid w g) :
    Calls Tryd.prog 9 #[.int .i64 c] w fun e w' => e = .returned (.tuple #[.bool (FC.joinB c), .bool (FC.dualB c)]) ∧ Below w.heap.size w w' := by
  obtain ⟨-, -, hj, -, -⟩ := FC.props c
  have hk := kind_eql
  have hg := kind_guard
  by_cases h7 : FC.cls c = 7
  · have h2 := hj (.inl h7)
    have E : Hid (FC.joinB c = true ∧ FC.dualB c = true) := ⟨decide_eq_true (.inl h7), decide_eq_true h7⟩
    have hq : (FC.cls c == 7 && FC.scr c == 2) = true := by rw [h7, h2]; rfl
    clear hj h7 h2
    go_enter Tryd.func9, Tryd.ntmps9
    go_wp2_with (go_at_call 22; refine (find_any _ g _ hl).mono ?_; rintro e w1 ⟨rfl, hb1⟩)
    go_quiet (fail)
    go_wp2
    go_ret2
    exact ⟨retbb E.out.1.symm E.out.2.symm, by repeat' (first | exact Below.refl _ _ | (with_reducible assumption) | (refine bnext ?_ (by with_reducible assumption)) | (refine balloc ?_ _) | (refine below_drewN ?_ _) | (refine Below.drew ?_) | (refine bset ?_ (by simp; try omega) _))⟩
  · have hq : (FC.cls c == 7 && FC.scr c == 2) = false := by simp [h7]
    have E : Hid (FC.joinB c = (FC.cls c == 8 && FC.scr c == 2) ∧ FC.dualB c = false) := ⟨by
      unfold FC.joinB
      by_cases h8 : FC.cls c = 8
      · rw [h8, hj (.inr h8)]; rfl
      · simp [h7, h8], decide_eq_false h7⟩
    clear hj h7
    go_enter Tryd.func9, Tryd.ntmps9
    go_wp2_with (go_at_call 22; refine (find_any _ g _ hl).mono ?_; rintro e w1 ⟨rfl, hb1⟩)
    go_quiet (fail)
    go_wp2
    go_ret2
    exact ⟨retbb E.out.1.symm E.out.2.symm, by repeat' (first | exact Below.refl _ _ | (with_reducible assumption) | (refine bnext ?_ (by with_reducible assumption)) | (refine balloc ?_ _) | (refine below_drewN ?_ _) | (refine Below.drew ?_) | (refine bset ?_ (by simp; try omega) _))⟩
end Go.Proofs.YteiacgonbmjgiaaDoor
