/- The contract of sanity. -/
import Derived.Test.YtnikddmcphcmeaaDoorCluCuts
import Derived.Test.YtnikddmcphcmeaaDoorApp
namespace Go.Proofs.YtnikddmcphcmeaaDoor
open Go.RowKit Go.Shelf
theorem cut0 (g : Nat × Nat) (W : World) (hl : Laid W g) : Calls Tryd.prog 21 #[.string ⟨#[65, 97, 97, 66]⟩, .slice (some ⟨W.heap.size, 0, none⟩) 2 2] (W.alloc (.cells #[.int .i64 3, .int .i64 4] 3)) fun e W' => e = .returned (.bool true) ∧ Below (W.alloc (.cells #[.int .i64 3, .int .i64 4] 3)).heap.size (W.alloc (.cells #[.int .i64 3, .int .i64 4] 3)) W' := by
  have h := cuts_any ⟨#[65, 97, 97, 66]⟩ _ [3, 4] g _ (hl.mono ((Below.refl _ W).alloc (Nat.le_refl _) (.cells #[.int .i64 3, .int .i64 4] 3))) (by decide) (own_src (own_lit W [.int .i64 3, .int .i64 4] 3 W.heap.size (Nat.le_refl _) (by simp [maxLen])) rfl).row (by decide)
  rw [show decide (CP.split ⟨#[65, 97, 97, 66]⟩ = CP.pcs 0 [3, 4]) = true from by decide +kernel] at h
  exact h
theorem cut1 (g : Nat × Nat) (W : World) (hl : Laid W g) : Calls Tryd.prog 21 #[.string ⟨#[160, 184, 161, 193, 160]⟩, .slice (some ⟨W.heap.size, 0, none⟩) 2 2] (W.alloc (.cells #[.int .i64 4, .int .i64 5] 3)) fun e W' => e = .returned (.bool true) ∧ Below (W.alloc (.cells #[.int .i64 4, .int .i64 5] 3)).heap.size (W.alloc (.cells #[.int .i64 4, .int .i64 5] 3)) W' := by
  have h := cuts_any ⟨#[160, 184, 161, 193, 160]⟩ _ [4, 5] g _ (hl.mono ((Below.refl _ W).alloc (Nat.le_refl _) (.cells #[.int .i64 4, .int .i64 5] 3))) (by decide) (own_src (own_lit W [.int .i64 4, .int .i64 5] 3 W.heap.size (Nat.le_refl _) (by simp [maxLen])) rfl).row (by decide)
  rw [show decide (CP.split ⟨#[160, 184, 161, 193, 160]⟩ = CP.pcs 0 [4, 5]) = true from by decide +kernel] at h
  exact h
theorem cut2 (g : Nat × Nat) (W : World) (hl : Laid W g) : Calls Tryd.prog 21 #[.string ⟨#[160, 184, 65]⟩, .slice (some ⟨W.heap.size, 0, none⟩) 2 2] (W.alloc (.cells #[.int .i64 2, .int .i64 3] 3)) fun e W' => e = .returned (.bool true) ∧ Below (W.alloc (.cells #[.int .i64 2, .int .i64 3] 3)).heap.size (W.alloc (.cells #[.int .i64 2, .int .i64 3] 3)) W' := by
  have h := cuts_any ⟨#[160, 184, 65]⟩ _ [2, 3] g _ (hl.mono ((Below.refl _ W).alloc (Nat.le_refl _) (.cells #[.int .i64 2, .int .i64 3] 3))) (by decide) (own_src (own_lit W [.int .i64 2, .int .i64 3] 3 W.heap.size (Nat.le_refl _) (by simp [maxLen])) rfl).row (by decide)
  rw [show decide (CP.split ⟨#[160, 184, 65]⟩ = CP.pcs 0 [2, 3]) = true from by decide +kernel] at h
  exact h
theorem cut3 (g : Nat × Nat) (W : World) (hl : Laid W g) : Calls Tryd.prog 21 #[.string ⟨#[97, 97, 65]⟩, .slice (some ⟨W.heap.size, 0, none⟩) 2 2] (W.alloc (.cells #[.int .i64 2, .int .i64 3] 3)) fun e W' => e = .returned (.bool true) ∧ Below (W.alloc (.cells #[.int .i64 2, .int .i64 3] 3)).heap.size (W.alloc (.cells #[.int .i64 2, .int .i64 3] 3)) W' := by
  have h := cuts_any ⟨#[97, 97, 65]⟩ _ [2, 3] g _ (hl.mono ((Below.refl _ W).alloc (Nat.le_refl _) (.cells #[.int .i64 2, .int .i64 3] 3))) (by decide) (own_src (own_lit W [.int .i64 2, .int .i64 3] 3 W.heap.size (Nat.le_refl _) (by simp [maxLen])) rfl).row (by decide)
  rw [show decide (CP.split ⟨#[97, 97, 65]⟩ = CP.pcs 0 [2, 3]) = true from by decide +kernel] at h
  exact h
theorem cut4 (g : Nat × Nat) (W : World) (hl : Laid W g) : Calls Tryd.prog 21 #[.string ⟨#[65, 10, 97, 10, 10]⟩, .slice (some ⟨W.heap.size, 0, none⟩) 5 5] (W.alloc (.cells #[.int .i64 1, .int .i64 2, .int .i64 3, .int .i64 4, .int .i64 5] 3)) fun e W' => e = .returned (.bool true) ∧ Below (W.alloc (.cells #[.int .i64 1, .int .i64 2, .int .i64 3, .int .i64 4, .int .i64 5] 3)).heap.size (W.alloc (.cells #[.int .i64 1, .int .i64 2, .int .i64 3, .int .i64 4, .int .i64 5] 3)) W' := by
  have h := cuts_any ⟨#[65, 10, 97, 10, 10]⟩ _ [1, 2, 3, 4, 5] g _ (hl.mono ((Below.refl _ W).alloc (Nat.le_refl _) (.cells #[.int .i64 1, .int .i64 2, .int .i64 3, .int .i64 4, .int .i64 5] 3))) (by decide) (own_src (own_lit W [.int .i64 1, .int .i64 2, .int .i64 3, .int .i64 4, .int .i64 5] 3 W.heap.size (Nat.le_refl _) (by simp [maxLen])) rfl).row (by decide)
  rw [show decide (CP.split ⟨#[65, 10, 97, 10, 10]⟩ = CP.pcs 0 [1, 2, 3, 4, 5]) = true from by decide +kernel] at h
  exact h
theorem cut5 (g : Nat × Nat) (W : World) (hl : Laid W g) : Calls Tryd.prog 21 #[.string ⟨#[65, 97, 97, 97, 97, 97, 97, 97]⟩, .slice (some ⟨W.heap.size, 0, none⟩) 2 2] (W.alloc (.cells #[.int .i64 6, .int .i64 8] 3)) fun e W' => e = .returned (.bool true) ∧ Below (W.alloc (.cells #[.int .i64 6, .int .i64 8] 3)).heap.size (W.alloc (.cells #[.int .i64 6, .int .i64 8] 3)) W' := by
  have h := cuts_any ⟨#[65, 97, 97, 97, 97, 97, 97, 97]⟩ _ [6, 8] g _ (hl.mono ((Below.refl _ W).alloc (Nat.le_refl _) (.cells #[.int .i64 6, .int .i64 8] 3))) (by decide) (own_src (own_lit W [.int .i64 6, .int .i64 8] 3 W.heap.size (Nat.le_refl _) (by simp [maxLen])) rfl).row (by decide)
  rw [show decide (CP.split ⟨#[65, 97, 97, 97, 97, 97, 97, 97]⟩ = CP.pcs 0 [6, 8]) = true from by decide +kernel] at h
  exact h
theorem cut6 (g : Nat × Nat) (W : World) (hl : Laid W g) : Calls Tryd.prog 21 #[.string ⟨#[160, 184, 161, 184, 160, 184, 161, 193]⟩, .slice (some ⟨W.heap.size, 0, none⟩) 2 2] (W.alloc (.cells #[.int .i64 6, .int .i64 8] 3)) fun e W' => e = .returned (.bool true) ∧ Below (W.alloc (.cells #[.int .i64 6, .int .i64 8] 3)).heap.size (W.alloc (.cells #[.int .i64 6, .int .i64 8] 3)) W' := by
  have h := cuts_any ⟨#[160, 184, 161, 184, 160, 184, 161, 193]⟩ _ [6, 8] g _ (hl.mono ((Below.refl _ W).alloc (Nat.le_refl _) (.cells #[.int .i64 6, .int .i64 8] 3))) (by decide) (own_src (own_lit W [.int .i64 6, .int .i64 8] 3 W.heap.size (Nat.le_refl _) (by simp [maxLen])) rfl).row (by decide)
  rw [show decide (CP.split ⟨#[160, 184, 161, 184, 160, 184, 161, 193]⟩ = CP.pcs 0 [6, 8]) = true from by decide +kernel] at h
  exact h
theorem ata0 (g : Nat × Nat) (W : World) (hl : Laid W g) : Calls Tryd.prog 15 #[.string ⟨#[160, 184, 161, 193, 160]⟩, .int .i64 0] W fun e W' => e = .returned (.int .i64 0) ∧ Below W.heap.size W W' := by
  have h := at_any ⟨#[160, 184, 161, 193, 160]⟩ 0 g W hl (by decide)
  rwa [show CP.at' ⟨#[160, 184, 161, 193, 160]⟩ 0 = 0 from by decide +kernel] at h
theorem ata1 (g : Nat × Nat) (W : World) (hl : Laid W g) : Calls Tryd.prog 15 #[.string ⟨#[160, 184, 161, 193, 160]⟩, .int .i64 3] W fun e W' => e = .returned (.int .i64 0) ∧ Below W.heap.size W W' := by
  have h := at_any ⟨#[160, 184, 161, 193, 160]⟩ 3 g W hl (by decide)
  rwa [show CP.at' ⟨#[160, 184, 161, 193, 160]⟩ 3 = 0 from by decide +kernel] at h
theorem ata2 (g : Nat × Nat) (W : World) (hl : Laid W g) : Calls Tryd.prog 15 #[.string ⟨#[160, 184, 161, 193, 160]⟩, .int .i64 4] W fun e W' => e = .returned (.int .i64 1) ∧ Below W.heap.size W W' := by
  have h := at_any ⟨#[160, 184, 161, 193, 160]⟩ 4 g W hl (by decide)
  rwa [show CP.at' ⟨#[160, 184, 161, 193, 160]⟩ 4 = 1 from by decide +kernel] at h
theorem ata3 (g : Nat × Nat) (W : World) (hl : Laid W g) : Calls Tryd.prog 15 #[.string ⟨#[160, 184, 161, 193, 160]⟩, .int .i64 5] W fun e W' => e = .returned (.int .i64 (-1)) ∧ Below W.heap.size W W' := by
  have h := at_any ⟨#[160, 184, 161, 193, 160]⟩ 5 g W hl (by decide)
  rwa [show CP.at' ⟨#[160, 184, 161, 193, 160]⟩ 5 = (-1) from by decide +kernel] at h
theorem ata4 (g : Nat × Nat) (W : World) (hl : Laid W g) : Calls Tryd.prog 15 #[.string ⟨#[160, 184, 161, 193, 160]⟩, .int .i64 (-1)] W fun e W' => e = .returned (.int .i64 (-1)) ∧ Below W.heap.size W W' := by
  have h := at_any ⟨#[160, 184, 161, 193, 160]⟩ (-1) g W hl (by decide)
  rwa [show CP.at' ⟨#[160, 184, 161, 193, 160]⟩ (-1) = (-1) from by decide +kernel] at h
theorem bas0 (g : Nat × Nat) (W : World) (hl : Laid W g) : Calls Tryd.prog 17 #[.string ⟨#[160, 184, 161, 193, 160]⟩, .agg #[.int .i64 1, .int .i64 4]] W fun e W' => e = .returned (.int .i64 2) ∧ Below W.heap.size W W' := by
  have h := base_any ⟨#[160, 184, 161, 193, 160]⟩ 1 4 g W hl (by decide)
  rwa [show CP.base ⟨#[160, 184, 161, 193, 160]⟩ 1 4 = 2 from by decide +kernel] at h
theorem bas1 (g : Nat × Nat) (W : World) (hl : Laid W g) : Calls Tryd.prog 17 #[.string ⟨#[97, 97, 65]⟩, .agg #[.int .i64 0, .int .i64 2]] W fun e W' => e = .returned (.int .i64 0) ∧ Below W.heap.size W W' := by
  have h := base_any ⟨#[97, 97, 65]⟩ 0 2 g W hl (by decide)
  rwa [show CP.base ⟨#[97, 97, 65]⟩ 0 2 = 0 from by decide +kernel] at h
theorem bas2 (g : Nat × Nat) (W : World) (hl : Laid W g) : Calls Tryd.prog 17 #[.string ⟨#[97, 97, 65]⟩, .agg #[.int .i64 2, .int .i64 2]] W fun e W' => e = .returned (.int .i64 (-1)) ∧ Below W.heap.size W W' := by
  have h := base_any ⟨#[97, 97, 65]⟩ 2 2 g W hl (by decide)
  rwa [show CP.base ⟨#[97, 97, 65]⟩ 2 2 = (-1) from by decide +kernel] at h
set_option maxRecDepth 100000 in
set_option maxHeartbeats 4000000 in
theorem sane_any (g : Nat × Nat) (w : World) (hl : Laid w g) :
    Calls Tryd.prog 10 #[] w fun e W' => e = .returned (.bool true) ∧ Below w.heap.size w W' := by
  have HL : Hid (∀ B, Below w.heap.size w B → Laid B g) := Lib.hid fun B hb => hl.mono hb
  have acc0 : Below w.heap.size w w := Below.refl _ _
  clear hl
  go_enter Tryd.func10, Tryd.ntmps10
  go_wp2_with fail
  refine (cut0 g _ (HL.out _ acc0)).mono ?_
  rintro e w1 ⟨rfl, hb1⟩
  have acc1 := bnext (balloc acc0 _) hb1
  go_wp2_with fail
  refine (cut1 g _ (HL.out _ acc1)).mono ?_
  rintro e w2 ⟨rfl, hb2⟩
  have acc2 := bnext (balloc acc1 _) hb2
  go_wp2_with fail
  refine (cut2 g _ (HL.out _ acc2)).mono ?_
  rintro e w3 ⟨rfl, hb3⟩
  have acc3 := bnext (balloc acc2 _) hb3
  go_wp2_with fail
  refine (cut3 g _ (HL.out _ acc3)).mono ?_
  rintro e w4 ⟨rfl, hb4⟩
  have acc4 := bnext (balloc acc3 _) hb4
  go_wp2_with fail
  refine (cut4 g _ (HL.out _ acc4)).mono ?_
  rintro e w5 ⟨rfl, hb5⟩
  have acc5 := bnext (balloc acc4 _) hb5
  go_wp2_with fail
  refine (cut5 g _ (HL.out _ acc5)).mono ?_
  rintro e w6 ⟨rfl, hb6⟩
  have acc6 := bnext (balloc acc5 _) hb6
  go_wp2_with fail
  refine (cut6 g _ (HL.out _ acc6)).mono ?_
  rintro e w7 ⟨rfl, hb7⟩
  have acc7 := bnext (balloc acc6 _) hb7
  go_wp2_with fail
  refine (ata0 g _ (HL.out _ acc7)).mono ?_
  rintro e w8 ⟨rfl, hb8⟩
  have acc8 := bnext acc7 hb8
  go_wp2_with fail
  refine (ata1 g _ (HL.out _ acc8)).mono ?_
  rintro e w9 ⟨rfl, hb9⟩
  have acc9 := bnext acc8 hb9
  go_wp2_with fail
  refine (ata2 g _ (HL.out _ acc9)).mono ?_
  rintro e w10 ⟨rfl, hb10⟩
  have acc10 := bnext acc9 hb10
  go_wp2_with fail
  refine (ata3 g _ (HL.out _ acc10)).mono ?_
  rintro e w11 ⟨rfl, hb11⟩
  have acc11 := bnext acc10 hb11
  go_wp2_with fail
  refine (ata4 g _ (HL.out _ acc11)).mono ?_
  rintro e w12 ⟨rfl, hb12⟩
  have acc12 := bnext acc11 hb12
  go_wp2_with fail
  refine (bas0 g _ (HL.out _ acc12)).mono ?_
  rintro e w13 ⟨rfl, hb13⟩
  have acc13 := bnext acc12 hb13
  go_wp2_with fail
  refine (bas1 g _ (HL.out _ acc13)).mono ?_
  rintro e w14 ⟨rfl, hb14⟩
  have acc14 := bnext acc13 hb14
  go_wp2_with fail
  refine (bas2 g _ (HL.out _ acc14)).mono ?_
  rintro e w15 ⟨rfl, hb15⟩
  have acc15 := bnext acc14 hb15
  go_wp2
  go_ret
  exact ⟨rfl, acc15⟩
end Go.Proofs.YtnikddmcphcmeaaDoor
