/- The law's examples hold. -/
import Derived.Test.YtkacbmimmnlhlaaDoorFrmROrd
import Derived.Test.YtkacbmimmnlhlaaDoorFrmSame
namespace Go.Proofs.YtkacbmimmnlhlaaDoor
set_option linter.unusedVariables false
open Go.RowKit Go.Shelf Go.Deep
set_option maxRecDepth 100000 in
set_option maxHeartbeats 4000000 in
theorem sane_any (g : Nat × Nat) (w : World) (hl : Laid w g) : Calls Tryd.prog 9 #[] w fun e w' => e = .returned (.bool true) ∧ Below w.heap.size w w' := by
  have HL : Hid (∀ B, Below w.heap.size w B → Laid B g) := Lib.hid fun B hb => hl.mono hb
  have acc0 : Below w.heap.size w w := Below.refl _ _
  clear hl
  go_enter Tryd.func9, Tryd.ntmps9
  go_wp2_with fail
  refine (forms_any ⟨#[104, 105, 104, 128, 104]⟩ g _ (HL.out _ acc0) (by decide)).mono ?_
  rintro e w1 ⟨v1, rfl, o1, hb1⟩
  have s1 := own_src o1 (by decide +kernel)
  rw [show FP.forms ⟨#[104, 105, 104, 128, 104]⟩ = [2, 3, 3, 4, 1] by decide +kernel] at s1
  clear o1
  have acc1 := bnext (w := w) acc0 hb1
  clear hb1 acc0
  go_wp2_with fail
  refine (is_any _ _ [2, 3, 3, 4, 1] _ (s1.keep (balloc (Below.refl _ _) _)).row (lit_row w1 [2, 3, 3, 4, 1]) (by decide)).mono ?_
  rintro e w2 ⟨rfl, hb2⟩
  clear s1
  have acc2 := bnext (w := w) (balloc acc1 _) hb2
  clear hb2 acc1
  go_wp2_with fail
  refine (forms_any ⟨#[104, 144, 105]⟩ g _ (HL.out _ acc2) (by decide)).mono ?_
  rintro e w3 ⟨v3, rfl, o3, hb3⟩
  have s3 := own_src o3 (by decide +kernel)
  rw [show FP.forms ⟨#[104, 144, 105]⟩ = [2, 4] by decide +kernel] at s3
  clear o3
  have acc3 := bnext (w := w) acc2 hb3
  clear hb3 acc2
  go_wp2_with fail
  refine (is_any _ _ [2, 4] _ (s3.keep (balloc (Below.refl _ _) _)).row (lit_row w3 [2, 4]) (by decide)).mono ?_
  rintro e w4 ⟨rfl, hb4⟩
  clear s3
  have acc4 := bnext (w := w) (balloc acc3 _) hb4
  clear hb4 acc3
  go_wp2_with fail
  refine (forms_any ⟨#[104, 241, 105]⟩ g _ (HL.out _ acc4) (by decide)).mono ?_
  rintro e w5 ⟨v5, rfl, o5, hb5⟩
  have s5 := own_src o5 (by decide +kernel)
  rw [show FP.forms ⟨#[104, 241, 105]⟩ = [1, 1] by decide +kernel] at s5
  clear o5
  have acc5 := bnext (w := w) acc4 hb5
  clear hb5 acc4
  go_wp2_with fail
  refine (is_any _ _ [1, 1] _ (s5.keep (balloc (Below.refl _ _) _)).row (lit_row w5 [1, 1]) (by decide)).mono ?_
  rintro e w6 ⟨rfl, hb6⟩
  clear s5
  have acc6 := bnext (w := w) (balloc acc5 _) hb6
  clear hb6 acc5
  go_wp2_with fail
  refine (forms_any ⟨#[104, 240]⟩ g _ (HL.out _ acc6) (by decide)).mono ?_
  rintro e w7 ⟨v7, rfl, o7, hb7⟩
  have s7 := own_src o7 (by decide +kernel)
  rw [show FP.forms ⟨#[104, 240]⟩ = [2] by decide +kernel] at s7
  clear o7
  have acc7 := bnext (w := w) acc6 hb7
  clear hb7 acc6
  go_wp2_with fail
  refine (is_any _ _ [2] _ (s7.keep (balloc (Below.refl _ _) _)).row (lit_row w7 [2]) (by decide)).mono ?_
  rintro e w8 ⟨rfl, hb8⟩
  clear s7
  have acc8 := bnext (w := w) (balloc acc7 _) hb8
  clear hb8 acc7
  go_wp2_with fail
  refine (forms_any ⟨#[104, 32, 105]⟩ g _ (HL.out _ acc8) (by decide)).mono ?_
  rintro e w9 ⟨v9, rfl, o9, hb9⟩
  have s9 := own_src o9 (by decide +kernel)
  rw [show FP.forms ⟨#[104, 32, 105]⟩ = [1, 0, 1] by decide +kernel] at s9
  clear o9
  have acc9 := bnext (w := w) acc8 hb9
  clear hb9 acc8
  go_wp2_with fail
  refine (is_any _ _ [1, 0, 1] _ (s9.keep (balloc (Below.refl _ _) _)).row (lit_row w9 [1, 0, 1]) (by decide)).mono ?_
  rintro e w10 ⟨rfl, hb10⟩
  clear s9
  have acc10 := bnext (w := w) (balloc acc9 _) hb10
  clear hb10 acc9
  go_wp2_with fail
  refine (forms_any ⟨#[128, 240, 104]⟩ g _ (HL.out _ acc10) (by decide)).mono ?_
  rintro e w11 ⟨v11, rfl, o11, hb11⟩
  have s11 := own_src o11 (by decide +kernel)
  rw [show FP.forms ⟨#[128, 240, 104]⟩ = [1, 1] by decide +kernel] at s11
  clear o11
  have acc11 := bnext (w := w) acc10 hb11
  clear hb11 acc10
  go_wp2_with fail
  refine (is_any _ _ [1, 1] _ (s11.keep (balloc (Below.refl _ _) _)).row (lit_row w11 [1, 1]) (by decide)).mono ?_
  rintro e w12 ⟨rfl, hb12⟩
  clear s11
  have acc12 := bnext (w := w) (balloc acc11 _) hb12
  clear hb12 acc11
  go_wp2_with fail
  refine (forms_any ⟨#[64, 104]⟩ g _ (HL.out _ acc12) (by decide)).mono ?_
  rintro e w13 ⟨v13, rfl, o13, hb13⟩
  have s13 := own_src o13 (by decide +kernel)
  rw [show FP.forms ⟨#[64, 104]⟩ = [0, 1] by decide +kernel] at s13
  clear o13
  have acc13 := bnext (w := w) acc12 hb13
  clear hb13 acc12
  go_wp2_with fail
  refine (is_any _ _ [0, 1] _ (s13.keep (balloc (Below.refl _ _) _)).row (lit_row w13 [0, 1]) (by decide)).mono ?_
  rintro e w14 ⟨rfl, hb14⟩
  clear s13
  have acc14 := bnext (w := w) (balloc acc13 _) hb14
  clear hb14 acc13
  go_wp2_with fail
  refine (forms_any ⟨#[104, 240, 64, 105]⟩ g _ (HL.out _ acc14) (by decide)).mono ?_
  rintro e w15 ⟨v15, rfl, o15, hb15⟩
  have s15 := own_src o15 (by decide +kernel)
  rw [show FP.forms ⟨#[104, 240, 64, 105]⟩ = [2, 0, 1] by decide +kernel] at s15
  clear o15
  have acc15 := bnext (w := w) acc14 hb15
  clear hb15 acc14
  go_wp2_with fail
  refine (is_any _ _ [2, 0, 1] _ (s15.keep (balloc (Below.refl _ _) _)).row (lit_row w15 [2, 0, 1]) (by decide)).mono ?_
  rintro e w16 ⟨rfl, hb16⟩
  clear s15
  have acc16 := bnext (w := w) (balloc acc15 _) hb16
  clear hb16 acc15
  go_wp2_with fail
  refine (order_any ⟨#[152, 184, 152, 192, 200, 240]⟩ 0 6 g _ (HL.out _ acc16) (by decide)).mono ?_
  rintro e w17 ⟨v17, rfl, o17, hb17⟩
  have s17 := own_src o17 (by decide +kernel)
  rw [show FP.ord ⟨#[152, 184, 152, 192, 200, 240]⟩ 0 6 = [3, 0, 1, 2, 4] by decide +kernel] at s17
  clear o17
  have acc17 := bnext (w := w) acc16 hb17
  clear hb17 acc16
  go_wp2_with fail
  refine (is_any _ _ [3, 0, 1, 2, 4] _ (s17.keep (balloc (Below.refl _ _) _)).row (lit_row w17 [3, 0, 1, 2, 4]) (by decide)).mono ?_
  rintro e w18 ⟨rfl, hb18⟩
  clear s17
  have acc18 := bnext (w := w) (balloc acc17 _) hb18
  clear hb18 acc17
  go_wp2_with fail
  refine (may_any _ [1, 2, 0] 2 0 _ (lit_row w18 [1, 2, 0]) (by decide)).mono ?_
  rintro e w19 ⟨v19, rfl, o19, hb19⟩
  have s19 := own_src o19 (by decide +kernel)
  rw [show List.map (FP.may1 2 0) [1, 2, 0] = [false, true, false] by decide +kernel] at s19
  clear o19
  have acc19 := bnext (w := w) (balloc acc18 _) hb19
  clear hb19 acc18
  go_wp2_with fail
  refine (may_any _ [1, 2, 0] 6 64 _ (lit_row w19 [1, 2, 0]) (by decide)).mono ?_
  rintro e w20 ⟨v20, rfl, o20, hb20⟩
  have s20 := own_src o20 (by decide +kernel)
  rw [show List.map (FP.may1 6 64) [1, 2, 0] = [true, true, true] by decide +kernel] at s20
  clear o20
  replace s19 := (s19.keep (balloc (Below.refl _ _) _)).keep hb20
  have acc20 := bnext (w := w) (balloc acc19 _) hb20
  clear hb20 acc19
  go_wp2_with fail
  refine (same_bools _ _ [false, true, false] _ (s19.keep (balloc (Below.refl _ _) _)).row (lit_rowb w20 [false, true, false]) (by decide)).mono ?_
  rintro e w21 ⟨rfl, hb21⟩
  clear s19
  replace s20 := (s20.keep (balloc (Below.refl _ _) _)).keep hb21
  have acc21 := bnext (w := w) (balloc acc20 _) hb21
  clear hb21 acc20
  go_wp2_with fail
  refine (same_bools _ _ [true, true, true] _ (s20.keep (balloc (Below.refl _ _) _)).row (lit_rowb w21 [true, true, true]) (by decide)).mono ?_
  rintro e w22 ⟨rfl, hb22⟩
  clear s20
  have acc22 := bnext (w := w) (balloc acc21 _) hb22
  clear hb22 acc21
  go_wp2_with fail
  go_ret
  exact ⟨rfl, acc22⟩
end Go.Proofs.YtkacbmimmnlhlaaDoor
