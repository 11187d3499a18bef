/- The panel's small functions: masks, what lies within. No conditions. -/
import Derived.Test.YtmiennkldkcnfaaDoorFr
import Derived.Laws.BitsAllLaws
import Derived.Laws.Shifts
namespace Go.Proofs.YtmiennkldkcnfaaDoor
set_option maxRecDepth 100000
set_option linter.unusedVariables false
open Go.RowKit Go.Deep
abbrev U6 (x : Nat) : Value := .int .u64 (x : Int)
/-- A rectangle. -/
structure Rc where
  x : Int
  y : Int
  w : Int
  h : Int
deriving DecidableEq
abbrev rcV (c : Rc) : Value := .agg #[.int .i64 c.x, .int .i64 c.y, .int .i64 c.w, .int .i64 c.h]
def rcOk (c : Rc) : Prop := (-9223372036854775808 ≤ c.x ∧ c.x ≤ 9223372036854775807) ∧ (-9223372036854775808 ≤ c.y ∧ c.y ≤ 9223372036854775807) ∧ (-9223372036854775808 ≤ c.w ∧ c.w ≤ 9223372036854775807) ∧ (-9223372036854775808 ≤ c.h ∧ c.h ≤ 9223372036854775807)
def wiP (c : Rc) (w h : Int) : Prop := 0 ≤ c.x ∧ 0 ≤ c.y ∧ 1 ≤ c.w ∧ 1 ≤ c.h ∧ c.x ≤ w ∧ c.y ≤ h ∧ c.w ≤ w - c.x ∧ c.h ≤ h - c.y
instance (c : Rc) (w h : Int) : Decidable (wiP c w h) := by unfold wiP; infer_instance
theorem mask_any (W : World) (n : Nat) (h1 : n ≤ 64) : Calls Tryd.prog 48 #[.int .i64 (n : Int)] W fun e w' => e = .returned (U6 (2 ^ n - 1)) ∧ w' = W := by
  have hp : 2 ^ n ≤ 2 ^ 64 := Nat.pow_le_pow_right (by decide) h1
  have hp1 : 1 ≤ 2 ^ n := Nat.one_le_two_pow
  have e : IntKind.u64.wrap (IntKind.u64.wrap (2 ^ n) - 1) = ((2 ^ n - 1 : Nat) : Int) := by
    rw [IntKind.wrap_u64, IntKind.wrap_u64, show ((2 : Int) ^ n) = ((2 ^ n : Nat) : Int) by rw [Int.natCast_pow]; rfl]
    omega
  go_enter Tryd.func48, Tryd.ntmps48
  go_wp2
  go_ret
  exact ⟨rfl, rfl⟩
theorem isWithin_any (W : World) (c : Rc) (w h : Int) (hc : rcOk c) (hw : 0 ≤ w ∧ w ≤ 1000000000) (hh : 0 ≤ h ∧ h ≤ 1000000000) :
    Calls Tryd.prog 47 #[rcV c, .int .i64 w, .int .i64 h] W fun e w' => e = .returned (.bool (decide (wiP c w h))) ∧ Below W.heap.size W w' := by
  obtain ⟨x, y, cw, ch⟩ := c
  obtain ⟨h1, h2, h3, h4⟩ := hc
  dsimp only at h1 h2 h3 h4
  obtain ⟨B, hB⟩ : ∃ B, decide (wiP ⟨x, y, cw, ch⟩ w h) = B := ⟨_, rfl⟩
  have HB := Lib.hid hB
  rw [hB]
  clear hB
  go_enter Tryd.func47, Tryd.ntmps47
  go_wp2
  all_goals
    go_ret
    refine ⟨retb ?_, balloc (Below.refl _ _) _⟩
    rw [← HB.out]
    first
      | exact (decide_eq_true (show wiP _ _ _ by unfold wiP; dsimp only; omega)).symm
      | exact (decide_eq_false (show ¬ wiP _ _ _ by unfold wiP; dsimp only; omega)).symm
      | (rw [Bool.eq_iff_iff, decide_eq_true_eq, decide_eq_true_eq]; unfold wiP; dsimp only; omega)
      | (rw [Bool.eq_iff_iff, Bool.and_eq_true, decide_eq_true_eq, decide_eq_true_eq, decide_eq_true_eq]; unfold wiP; dsimp only; omega)
end Go.Proofs.YtmiennkldkcnfaaDoor
