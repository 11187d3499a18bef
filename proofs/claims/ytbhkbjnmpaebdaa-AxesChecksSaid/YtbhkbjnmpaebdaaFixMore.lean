/- The contracts of fix.small, fix.right and of the reference's Small and Right: for every int64 they say whether numbers are small, and whether a scalar is right. -/
import Derived.Test.YtbhkbjnmpaebdaaFixRef
import Derived.Lib.Hide
namespace Go.Proofs.Ytbhkbjnmpaebdaa.F
open Go.RowKit

namespace FP
/-- A number is small. -/
def sm (n : Int) : Prop := -1048576 ≤ n ∧ n ≤ 1048576
instance (n : Int) : Decidable (sm n) := by unfold sm; infer_instance
/-- A scalar is right. -/
structure rgt (n d : Int) : Prop where
  d1 : 1 ≤ d
  d2 : d ≤ 262144
  n0 : 0 ≤ n
  nd : n ≤ d
  g : gc n d = 1
theorem rgt_iff (n d : Int) : rgt n d ↔ (1 ≤ d ∧ d ≤ 262144 ∧ 0 ≤ n ∧ n ≤ d ∧ gc n d = 1) := ⟨fun h => ⟨h.d1, h.d2, h.n0, h.nd, h.g⟩, fun ⟨a, b, c, d, e⟩ => ⟨a, b, c, d, e⟩⟩
instance (n d : Int) : Decidable (rgt n d) := decidable_of_iff _ (rgt_iff n d).symm
end FP

set_option maxHeartbeats 400000 in
theorem small_yes (b off len cap : Nat) (zs : List Int) (w : World) (hm : len ≤ 1000) (hc : ∀ j, j < len → w.cell? ⟨b, off + j, none⟩ = some (.int .i64 (zs.getD j 0))) (hs : ∀ j, j < len → FP.sm (zs.getD j 0)) :
    Calls Try.prog 51 #[.slice (some ⟨b, off, none⟩) len cap] w fun e w' => e = .returned (.bool true) ∧ Below w.heap.size w w' := by
  have HC := Lib.hid hc
  have HS := Lib.hid hs
  clear hc hs
  go_enter Try.func51, Try.ntmps51
  go_wp2
  go_loop [7] (fun i => ∃ k : Nat, k ≤ len ∧ i = .int .i64 k) (fun i => len - (intOf i).toNat)
  case atStart => exact ⟨0, Nat.zero_le _, rfl⟩
  case round =>
    obtain ⟨k, hk, rfl⟩ := hrel
    by_cases hlt : k < len
    · have hcell := HC.out k hlt
      obtain ⟨s1, s2⟩ := HS.out k hlt
      generalize zs.getD k 0 = z at hcell s1 s2
      go_wp2
      go_round
      case rel => exact ⟨k + 1, by omega, by go_num⟩
      case measure => simp [intOf]; omega
    · go_wp2
      go_ret
      exact ⟨rfl, Below.refl _ _⟩

set_option maxHeartbeats 400000 in
theorem small_no (b off len cap : Nat) (zs : List Int) (w : World) (hm : len ≤ 1000) (hc : ∀ j, j < len → w.cell? ⟨b, off + j, none⟩ = some (.int .i64 (zs.getD j 0))) (hs : ∃ j, j < len ∧ ¬ FP.sm (zs.getD j 0)) :
    Calls Try.prog 51 #[.slice (some ⟨b, off, none⟩) len cap] w fun e w' => e = .returned (.bool false) ∧ Below w.heap.size w w' := by
  have HC := Lib.hid hc
  obtain ⟨j, hj, hbad⟩ := hs
  have HB := Lib.hid hbad
  clear hc hbad
  go_enter Try.func51, Try.ntmps51
  go_wp2
  go_loop [7] (fun i => ∃ k : Nat, k ≤ j ∧ i = .int .i64 k) (fun i => len - (intOf i).toNat)
  case atStart => exact ⟨0, Nat.zero_le _, rfl⟩
  case round =>
    obtain ⟨k, hk, rfl⟩ := hrel
    have hlt : k < len := by omega
    have hcell := HC.out k hlt
    by_cases hz : FP.sm (zs.getD k 0)
    · have hne : k < j := by
        rcases Nat.lt_or_ge k j with h | h
        · exact h
        · exact absurd hz (by have : k = j := by omega
                              subst this; exact HB.out)
      obtain ⟨s1, s2⟩ := hz
      generalize zs.getD k 0 = z at hcell s1 s2
      go_wp2
      go_round
      case rel => exact ⟨k + 1, by omega, by go_num⟩
      case measure => simp [intOf]; omega
    · unfold FP.sm at hz
      by_cases hz1 : zs.getD k 0 < -1048576
      · clear hz
        generalize zs.getD k 0 = z at hcell hz1
        go_wp2
        go_ret
        exact ⟨rfl, Below.refl _ _⟩
      · have hz2 : 1048576 < zs.getD k 0 := by omega
        clear hz hz1
        generalize zs.getD k 0 = z at hcell hz2
        go_wp2
        go_ret
        exact ⟨rfl, Below.refl _ _⟩

theorem rsmall_yes (n : Int) (w : World) (h : FP.sm n) :
    Calls Try.prog 64 #[.int .i64 n] w fun e w' => e = .returned (.bool true) ∧ Below w.heap.size w w' := by
  obtain ⟨s1, s2⟩ := h
  go_enter Try.func64, Try.ntmps64
  go_wp2
  go_ret
  exact ⟨rfl, Below.refl _ _⟩
theorem retb {a b : Bool} (h : a = b) : Ending.returned (.bool a) = .returned (.bool b) := by rw [h]
theorem rsmall_no (n : Int) (w : World) (h : ¬ FP.sm n) :
    Calls Try.prog 64 #[.int .i64 n] w fun e w' => e = .returned (.bool false) ∧ Below w.heap.size w w' := by
  unfold FP.sm at h
  by_cases h1 : n < -1048576
  · clear h
    go_enter Try.func64, Try.ntmps64
    go_wp2
    go_ret
    exact ⟨rfl, Below.refl _ _⟩
  · have h2 : 1048576 < n := by omega
    clear h h1
    go_enter Try.func64, Try.ntmps64
    go_wp2
    go_ret
    exact ⟨retb (by simp; omega), Below.refl _ _⟩

set_option maxHeartbeats 400000 in
theorem right_yes (n d : Int) (w : World) (h : FP.rgt n d) :
    Calls Try.prog 69 #[.agg #[.int .i64 n, .int .i64 d]] w fun e w' => e = .returned (.bool true) ∧ Below w.heap.size w w' := by
  obtain ⟨h1, h2, h3, h4, h5⟩ := h
  have hg : (FP.gc n d == 1) = true := by simp [h5]
  clear h5
  go_enter Try.func69, Try.ntmps69
  go_wp2_with (go_at_call 70; refine (divisor_any _ _ _ (by omega) (by omega) (by omega) (by omega)).mono ?_; rintro e w' ⟨rfl, hb1⟩)
  go_ret
  exact ⟨rfl, ((Below.refl _ _).alloc (Nat.le_refl _) _).trans (hb1.mono (by simp))⟩

set_option maxHeartbeats 400000 in
theorem right_no (n d : Int) (w : World) (h : ¬ FP.rgt n d) :
    Calls Try.prog 69 #[.agg #[.int .i64 n, .int .i64 d]] w fun e w' => e = .returned (.bool false) ∧ Below w.heap.size w w' := by
  rw [FP.rgt_iff] at h
  by_cases h1 : 1 ≤ d
  · by_cases h2 : d ≤ 262144
    · by_cases h3 : 0 ≤ n
      · by_cases h4 : n ≤ d
        · have hg : (FP.gc n d == 1) = false := by
            rw [beq_eq_false_iff_ne]; intro h5; exact h ⟨h1, h2, h3, h4, h5⟩
          clear h
          go_enter Try.func69, Try.ntmps69
          go_wp2_with (go_at_call 70; refine (divisor_any _ _ _ (by omega) (by omega) (by omega) (by omega)).mono ?_; rintro e w' ⟨rfl, hb1⟩)
          go_ret
          exact ⟨rfl, ((Below.refl _ _).alloc (Nat.le_refl _) _).trans (hb1.mono (by simp))⟩
        · clear h
          go_enter Try.func69, Try.ntmps69
          go_wp2
          go_ret
          exact ⟨rfl, by go_grown⟩
      · clear h
        go_enter Try.func69, Try.ntmps69
        go_wp2
        go_ret
        exact ⟨rfl, by go_grown⟩
    · clear h
      go_enter Try.func69, Try.ntmps69
      go_wp2
      go_ret
      exact ⟨rfl, by go_grown⟩
  · clear h
    go_enter Try.func69, Try.ntmps69
    go_wp2
    go_ret
    exact ⟨rfl, by go_grown⟩

set_option maxHeartbeats 400000 in
theorem rright_yes (n d : Int) (w : World) (h : FP.rgt n d) :
    Calls Try.prog 75 #[.agg #[.int .i64 n, .int .i64 d]] w fun e w' => e = .returned (.bool true) ∧ Below w.heap.size w w' := by
  obtain ⟨h1, h2, h3, h4, h5⟩ := h
  have hg : (FP.gc n d == 1) = true := by simp [h5]
  clear h5
  go_enter Try.func75, Try.ntmps75
  go_wp2_with (go_at_call 76; refine (common_any _ _ _ (by omega) (by omega) (by omega) (by omega)).mono ?_; rintro e w' ⟨rfl, hb1⟩)
  go_ret
  exact ⟨rfl, ((Below.refl _ _).alloc (Nat.le_refl _) _).trans (hb1.mono (by simp))⟩

set_option maxHeartbeats 400000 in
theorem rright_no (n d : Int) (w : World) (h : ¬ FP.rgt n d) :
    Calls Try.prog 75 #[.agg #[.int .i64 n, .int .i64 d]] w fun e w' => e = .returned (.bool false) ∧ Below w.heap.size w w' := by
  rw [FP.rgt_iff] at h
  by_cases h1 : 1 ≤ d
  · by_cases h2 : d ≤ 262144
    · by_cases h3 : 0 ≤ n
      · by_cases h4 : n ≤ d
        · have hg : (FP.gc n d == 1) = false := by
            rw [beq_eq_false_iff_ne]; intro h5; exact h ⟨h1, h2, h3, h4, h5⟩
          clear h
          go_enter Try.func75, Try.ntmps75
          go_wp2_with (go_at_call 76; refine (common_any _ _ _ (by omega) (by omega) (by omega) (by omega)).mono ?_; rintro e w' ⟨rfl, hb1⟩)
          go_ret
          exact ⟨rfl, ((Below.refl _ _).alloc (Nat.le_refl _) _).trans (hb1.mono (by simp))⟩
        · clear h
          go_enter Try.func75, Try.ntmps75
          go_wp2
          go_ret
          exact ⟨rfl, by go_grown⟩
      · clear h
        go_enter Try.func75, Try.ntmps75
        go_wp2
        go_ret
        exact ⟨rfl, by go_grown⟩
    · clear h
      go_enter Try.func75, Try.ntmps75
      go_wp2
      go_ret
      exact ⟨rfl, by go_grown⟩
  · clear h
    go_enter Try.func75, Try.ntmps75
    go_wp2
    go_ret
    exact ⟨rfl, by go_grown⟩
end Go.Proofs.Ytbhkbjnmpaebdaa.F
