/- The contracts of digest.hasher and of the function that hands the digest out. -/
import Derived.Test.YtfikbcgadpbblaaDigHash
namespace Go.Proofs.Ytfikbcgadpbblaa
set_option linter.unusedVariables false
open Go.RowKit
abbrev takeF (bx bY : Nat) : Value := .func (.func 37) #[] #[.pointer (some ⟨bx, 0, none⟩), .pointer (some ⟨bY, 0, none⟩)]
abbrev sumF (bx bY : Nat) : Value := .func (.func 38) #[] #[.pointer (some ⟨bx, 0, none⟩), .pointer (some ⟨bY, 0, none⟩)]
set_option maxRecDepth 100000 in
set_option maxHeartbeats 1000000 in
theorem hasher_any (w : World) : Calls Try.prog 33 #[] w fun e w' => ∃ bx bY, e = .returned (.tuple #[takeF bx bY, sumF bx bY]) ∧ Hs bx bY 7 11 w' ∧ w.heap.size ≤ bx ∧ w.heap.size ≤ bY ∧ Below w.heap.size w w' := by
  go_enter Try.func33, Try.ntmps33
  go_wp2
  refine bodyPost_ret (results_tmp2 Try.results33 _ _ _) rfl ?_
  refine ⟨w.heap.size, w.heap.size + 1, rfl, ⟨?_, ?_, by omega⟩, Nat.le_refl _, by omega, balloc (balloc (Below.refl _ _) _) _⟩
  · exact ((Below.refl _ (w.alloc _)).alloc (Nat.le_refl _) _ |>.block _ (by rw [World.size_alloc]; omega)).trans (heap_alloc_new w _)
  · have := heap_alloc_new (w.alloc (.cells #[.int .u64 7] 66)) (.cells #[.int .u64 11] 66)
    rwa [World.size_alloc] at this
set_option maxRecDepth 100000 in
set_option maxHeartbeats 1000000 in
theorem sum_any (bx bY : Nat) (l : List UInt8) (w : World) (h : Hs bx bY (DG.X l) (DG.Y l) w) :
    Calls Try.prog 38 #[.pointer (some ⟨bx, 0, none⟩), .pointer (some ⟨bY, 0, none⟩)] w fun e w' => e = .returned (DG.sumV l) ∧ Below w.heap.size w w' := by
  obtain ⟨x, hx⟩ : ∃ x, DG.X l = x := ⟨_, rfl⟩
  obtain ⟨y, hy⟩ : ∃ y, DG.Y l = y := ⟨_, rfl⟩
  have hxl := DG.X_lt l
  have hyl := DG.Y_lt l
  rw [hx] at hxl h
  rw [hy] at hyl h
  have c0 := one_at h.1
  have f0 := one_free h.1
  have c1 := one_at h.2.1
  have f1 := one_free h.2.1
  have l0 : bx < w.heap.size := (Array.getElem?_eq_some_iff.1 h.1).1
  have l1 : bY < w.heap.size := (Array.getElem?_eq_some_iff.1 h.2.1).1
  have n0 : ¬ bx = w.heap.size := by omega
  have n1 : ¬ bY = w.heap.size := by omega
  clear h
  have HV : Hid (DG.sumV l = .agg #[.int .u8 (x / 16777216), .int .u8 (x / 65536 % 256), .int .u8 (x / 256 % 256), .int .u8 (x % 256), .int .u8 (y / 16777216), .int .u8 (y / 65536 % 256), .int .u8 (y / 256 % 256), .int .u8 (y % 256)]) := Lib.hid (by
    unfold DG.sumV DG.dig DG.b4
    rw [hx, hy]
    have e0 : (x : Int) / 16777216 % 256 = x / 16777216 := by omega
    have e1 : (y : Int) / 16777216 % 256 = y / 16777216 := by omega
    simp [e0, e1])
  clear hx hy
  go_enter Try.func38, Try.ntmps38
  go_wp2
  refine bodyPost_ret (results_cell_row Try.results38 _ _ w.heap.size 46 _ (0, 0) _ rfl (heap_alloc_new w _) Try.underlying46 rfl (by kernel_rfl)) rfl ?_
  exact ⟨by rw [HV.out], balloc (Below.refl _ _) _⟩
end Go.Proofs.Ytfikbcgadpbblaa
