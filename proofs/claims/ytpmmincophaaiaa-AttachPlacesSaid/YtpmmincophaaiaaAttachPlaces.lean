/- For every list of lists of numbers AttachPlaces returns true: Places returns what the reference returns, for glyphs that the numbers make. No conditions. -/
import Derived.Test.YtpmmincophaaiaaAttOpen
namespace Go.Proofs.Ytpmmincophaaiaa.attachPlaces
open Go.ChangeShapes Go.WideShapes Go.ChangeAt Go.RowKit Go.Joins Go.Deep
set_option linter.unusedVariables false

set_option maxRecDepth 100000 in
set_option maxHeartbeats 2000000 in
theorem walk (v0 : Value) (a0 : List (List Int))  (w : World) (H0 : LLAt w v0 a0) (L0 : a0.length ≤ maxLen ∧ ∀ a n c, v0 = .slice a n c → n ≤ c) :
    Calls Try.prog 3 #[v0] w fun e w' => e = .returned (.bool true) ∧ Below w.heap.size w w' := by
  have HM : Hid (∀ V, Below w.heap.size w V → LLAt V v0 a0) := Lib.hid fun V hV => H0.keep hV
  obtain ⟨va, vc, hv0⟩ : ∃ va vc, v0 = .slice va a0.length vc := by obtain ⟨va, vc, e, -⟩ := H0; exact ⟨va, vc, e⟩
  subst hv0
  have L0' := L0.1
  clear H0 L0
  go_enter Try.func3, Try.ntmps3
  go_wp2_with fail
  refine (sane_any _).mono ?_
  rintro e w1 ⟨rfl, k1⟩
  have HB1 := Lib.hid k1
  clear k1
  go_wp2_with fail
  refine (made_c a0 _ _ (HM.out _ HB1.out) L0').mono ?_
  rintro e w2 ⟨da, dc, rfl, hds, k2⟩
  have HA := Lib.hid (AT.made_anch a0)
  have HR := Lib.hid (AT.made_right a0)
  have hdl := AT.made_len a0
  have HPL := Lib.hid (AT.made_places a0)
  obtain ⟨D, hD⟩ : ∃ D, AT.made a0 = D := ⟨_, rfl⟩
  rw [hD] at hds hdl HA HR HPL ⊢
  have HDD := Lib.hid hD
  have HDS := Lib.hid hds
  have HB2 := Lib.hid (bnext HB1.out k2)
  clear k2 hds hD
  go_wp2_with fail
  refine (mplaces_c D _ _ (by omega) HA.out HDS.out).mono ?_
  rintro e w3 ⟨pa, pc, rfl, hp, k3⟩
  have HP := Lib.hid hp
  have HDS3 := Lib.hid (HDS.out.keep k3)
  have HB3 := Lib.hid (bnext HB2.out k3)
  clear k3 hp
  go_wp2_with fail
  refine (mrplaces_c D _ _ (by omega) HA.out HDS3.out).mono ?_
  rintro e w4 ⟨qa, qc, rfl, hq, k4⟩
  have HQ := Lib.hid hq
  have HP4 := Lib.hid (HP.out.keep k4)
  have HB4 := Lib.hid (bnext HB3.out k4)
  clear k4 hq
  go_wp2_with fail
  refine (same_c (AT.places D) _ _ _ HP4.out HQ.out (by have := places_len D; omega)).mono ?_
  rintro e w5 ⟨rfl, k5⟩
  have HB5 := Lib.hid (bnext HB4.out k5)
  clear k5
  go_wp2
  go_ret
  exact ⟨rfl, HB5.out⟩

set_option maxRecDepth 100000 in
theorem lifted (os : Os) (started : os.Started) (H : Type) (enc : TypeId × Value → H) :
    ReturnsInHanded {} Try.checked os 3 .any (Rows.attachPlacesSpec.pre6 enc Try.prog Try.f3 Rows.attachPlacesRow.domain false) (Rows.attachPlacesSpec.post enc Try.prog Try.f3 false true false false) := by
  refine returnsInHanded_of_change (C := Try.checked) own started (by kernel_rfl) Try.func3
    (ChangeSpec.witness6 (enc := enc) (C := Try.checked) false ⟨#[], #[.slice none 0 0], []⟩ 8 (by kernel_rfl) (by kernel_rfl) (by kernel_rfl) (by kernel_rfl)) ?_
  intro W base args ds gs before hval0 hW hcnd _
  have hval : ∀ (j : Nat) t v, Try.f3.params[j]? = some t → args[j]? = some v → Value.okWide Try.prog W .any base t v := hval0
  have hW' := hW
  obtain ⟨p, q, hA0, hV, rfl, hfz, hnd⟩ := hW
  have hA : DataW.TrodAll enc Try.prog W 0 (fun _ => true) true Try.f3.params.toList args.toList ds p := hA0
  rw [Try.params3] at hA hval
  obtain ⟨v0, vs0, d0, ds0, p0, q0, hargs, rfl, rfl, h0, r0⟩ := trodAll_cons hA
  obtain ⟨rfl, rfl, rfl⟩ := trodAll_nil r0
  obtain rfl : args = #[v0] := by cases args; simp_all
  obtain ⟨rfl, rfl⟩ := trodVars_none hV
  have k0 := h0
  have lt0 : ∀ x ∈ p0, x.block < W.heap.size := by obtain ⟨m, hm⟩ := k0; exact DataW.trod_lt m _ _ _ hm
  obtain ⟨a0, H0, L0⟩ := open_lll (hval 0 22 v0 rfl rfl) h0
  clear hA0 hval0
  refine (walk v0 a0  W H0 L0).mono fun e W' ⟨he, bel⟩ => ?_
  subst he
  exact ⟨_, rfl, _, _, _, [], _, [], hW', trodAll_mk1 (shut_bool Try.underlying4 _), (trodAll_cons_mk (Below.trod laidOut (by kernel_rfl) (of_decide_eq_true (by kernel_rfl)) k0 bel lt0) trodAll_mk0), rfl, bel.frame _, fun h => by cases h⟩

theorem over : Rows.attachPlacesRow.holds Try.pinned (OpenSpec.ofChange Rows.attachPlacesSpec) :=
  OpenClaim.holds_of_wide 3 Try.f3 rfl rfl rfl rfl rfl rfl rfl ⟨rfl, rfl, rfl, rfl, rfl⟩ rfl rfl rfl rfl rfl (by kernel_rfl) Try.func3 (by kernel_rfl)
    (of_decide_eq_true (by kernel_rfl)) (by unfold Func.isWrapper; first | (rw [if_pos (by decide +kernel)]; kernel_rfl) | (rw [if_neg (by decide +kernel)]; exact ⟨rfl, rfl⟩))
    (fun os started H enc _ => lifted os started H enc)

end Go.Proofs.Ytpmmincophaaiaa.attachPlaces
namespace Go.Proofs.Ytpmmincophaaiaa
theorem attachPlaces_proved : Rows.AttachPlacesSaid := attachPlaces.over
#print axioms attachPlaces_proved
end Go.Proofs.Ytpmmincophaaiaa
