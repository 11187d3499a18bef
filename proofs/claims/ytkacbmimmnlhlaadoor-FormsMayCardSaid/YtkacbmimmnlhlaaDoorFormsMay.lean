/- For every list of forms, every feature and all wanted features FormsMay returns true: for which clusters a lookup may act is what the reference says. No conditions. -/
import Derived.Test.YtkacbmimmnlhlaaDoorFrmSane
import Derived.Test.YtkacbmimmnlhlaaDoorClsLaid
namespace Go.Proofs.YtkacbmimmnlhlaaDoor.formsMay
open Go.ChangeShapes Go.WideShapes Go.ChangeAt Go.RowKit Go.Joins Go.Deep
set_option linter.unusedVariables false

set_option maxRecDepth 100000 in
set_option maxHeartbeats 2000000 in
theorem walk (v0 : Value) (a0 : List Int) (a1 : Int) (a2 : Int) (g : Nat × Nat) (wa1 : (Lit.int .i64 a1).wf = true) (wa2 : (Lit.int .i64 a2).wf = true) (w : World) (hl : Laid w g) (H0 : RowAt w v0 (a0.map (Value.int .i64))) (L0 : a0.length ≤ maxLen ∧ ∀ a n c, v0 = .slice a n c → n ≤ c) (E0 : ∀ x, x ∈ a0 → -9223372036854775808 ≤ x ∧ x ≤ 9223372036854775807) :
    Calls Tryd.prog 5 #[v0, .int .i64 a1, .int .i64 a2] w fun e w' => e = .returned (.bool true) ∧ Below w.heap.size w w' := by
  obtain ⟨k0, c0, rfl, hr0⟩ := id H0
  rw [List.length_map] at hr0 H0 L0 ⊢
  have lc := L0.2 _ _ _ rfl
  clear hr0 E0
  have HL : Hid (∀ B, Below w.heap.size w B → Laid B g) := Lib.hid fun B hb => hl.mono hb
  have acc0 : Below w.heap.size w w := Below.refl _ _
  obtain ⟨z, hz⟩ : ∃ z, a1.tmod 12 = z := ⟨_, rfl⟩
  by_cases hlen : a0.length ≤ 100
  · have HR : Hid (∀ W, Below w.heap.size w W → RowAt W (.slice k0 a0.length c0) (a0.map (Value.int .i64))) := Lib.hid fun W hb => H0.keep hb
    have hF1 : a0.length ≤ 1000000000 := by omega
    have hmn : min (a0.length : Int) 100 = (a0.length : Int) := by omega
    clear H0 L0
    go_enter Tryd.func5, Tryd.ntmps5
    go_wp2_with fail
    refine (sane_any g _ hl).mono ?_
    rintro e w1 ⟨rfl, hb1⟩
    have acc1 := bnext acc0 hb1
    clear hb1 acc0
    go_wp2_with fail
    refine (may_any _ a0 a1 a2 _ (HR.out _ acc1) hF1).mono ?_
    rintro e w2 ⟨v2, rfl, o2, hb2⟩
    have acc2 := bnext acc1 hb2
    clear hb2 acc1
    have P1 := Lib.hid (own_src o2 (by rw [List.length_map, List.length_map]))
    clear o2
    go_wp2_with fail
    refine (rmay_any _ a0 a1 a2 _ (HR.out _ acc2) hF1).mono ?_
    rintro e w3 ⟨v3, rfl, o3, hb3⟩
    replace P1 := Lib.hid (P1.out.keep hb3)
    have acc3 := bnext acc2 hb3
    clear hb3 acc2
    have Q1 := Lib.hid (own_src o3 (by rw [List.length_map, List.length_map]))
    clear o3
    go_wp2_with fail
    refine (same_bools _ _ (a0.map (FP.may1 a1 a2)) _ P1.out.row Q1.out.row (by rw [List.length_map]; omega)).mono ?_
    rintro e w4 ⟨rfl, hb4⟩
    have acc4 := bnext acc3 hb4
    clear hb4 acc3
    clear P1 Q1
    go_wp2_with fail
    refine (may_any _ a0 z a2 _ (HR.out _ acc4) hF1).mono ?_
    rintro e w5 ⟨v5, rfl, o5, hb5⟩
    have acc5 := bnext acc4 hb5
    clear hb5 acc4
    have P2 := Lib.hid (own_src o5 (by rw [List.length_map, List.length_map]))
    clear o5
    go_wp2_with fail
    refine (rmay_any _ a0 z a2 _ (HR.out _ acc5) hF1).mono ?_
    rintro e w6 ⟨v6, rfl, o6, hb6⟩
    replace P2 := Lib.hid (P2.out.keep hb6)
    have acc6 := bnext acc5 hb6
    clear hb6 acc5
    have Q2 := Lib.hid (own_src o6 (by rw [List.length_map, List.length_map]))
    clear o6
    go_wp2_with fail
    refine (same_bools _ _ (a0.map (FP.may1 z a2)) _ P2.out.row Q2.out.row (by rw [List.length_map]; omega)).mono ?_
    rintro e w7 ⟨rfl, hb7⟩
    have acc7 := bnext acc6 hb7
    clear hb7 acc6
    clear P2 Q2
    go_wp2_with fail
    go_ret
    exact ⟨rfl, acc7⟩
  · obtain ⟨F, hF⟩ : ∃ F, a0.take 100 = F := ⟨_, rfl⟩
    have hl100 : F.length = 100 := by rw [← hF, List.length_take]; omega
    have HR : Hid (∀ W, Below w.heap.size w W → RowAt W (.slice k0 100 c0) (F.map (Value.int .i64))) := Lib.hid fun W hb => by
      have := row_first (H0.keep hb) (m := 100) (by rw [List.length_map]; omega)
      rwa [← List.map_take, hF] at this
    have hF1 : F.length ≤ 1000000000 := by omega
    have hmn : min (a0.length : Int) 100 = 100 := by omega
    clear H0 L0 hF
    go_enter Tryd.func5, Tryd.ntmps5
    go_wp2_with fail
    refine (sane_any g _ hl).mono ?_
    rintro e w1 ⟨rfl, hb1⟩
    have acc1 := bnext acc0 hb1
    clear hb1 acc0
    go_wp2_with fail
    refine (may_any _ F a1 a2 _ (HR.out _ acc1) hF1).mono ?_
    rintro e w2 ⟨v2, rfl, o2, hb2⟩
    have acc2 := bnext acc1 hb2
    clear hb2 acc1
    have P1 := Lib.hid (own_src o2 (by rw [List.length_map, List.length_map]))
    clear o2
    go_wp2_with fail
    refine (rmay_any _ F a1 a2 _ (HR.out _ acc2) hF1).mono ?_
    rintro e w3 ⟨v3, rfl, o3, hb3⟩
    replace P1 := Lib.hid (P1.out.keep hb3)
    have acc3 := bnext acc2 hb3
    clear hb3 acc2
    have Q1 := Lib.hid (own_src o3 (by rw [List.length_map, List.length_map]))
    clear o3
    go_wp2_with fail
    refine (same_bools _ _ (F.map (FP.may1 a1 a2)) _ P1.out.row Q1.out.row (by rw [List.length_map]; omega)).mono ?_
    rintro e w4 ⟨rfl, hb4⟩
    have acc4 := bnext acc3 hb4
    clear hb4 acc3
    clear P1 Q1
    go_wp2_with fail
    refine (may_any _ F z a2 _ (HR.out _ acc4) hF1).mono ?_
    rintro e w5 ⟨v5, rfl, o5, hb5⟩
    have acc5 := bnext acc4 hb5
    clear hb5 acc4
    have P2 := Lib.hid (own_src o5 (by rw [List.length_map, List.length_map]))
    clear o5
    go_wp2_with fail
    refine (rmay_any _ F z a2 _ (HR.out _ acc5) hF1).mono ?_
    rintro e w6 ⟨v6, rfl, o6, hb6⟩
    replace P2 := Lib.hid (P2.out.keep hb6)
    have acc6 := bnext acc5 hb6
    clear hb6 acc5
    have Q2 := Lib.hid (own_src o6 (by rw [List.length_map, List.length_map]))
    clear o6
    go_wp2_with fail
    refine (same_bools _ _ (F.map (FP.may1 z a2)) _ P2.out.row Q2.out.row (by rw [List.length_map]; omega)).mono ?_
    rintro e w7 ⟨rfl, hb7⟩
    have acc7 := bnext acc6 hb7
    clear hb7 acc6
    clear P2 Q2
    go_wp2_with fail
    go_ret
    exact ⟨rfl, acc7⟩

set_option maxRecDepth 100000 in
theorem lifted (os : Os) (started : os.Started) (H : Type) (enc : TypeId × Value → H) :
    ReturnsInHanded {} Tryd.checked os 5 .any (fun w args => (Rows.formsMaySpec.pre enc Tryd.prog Tryd.f5 [] false w args ∧ laidMetH Tryd.prog laidL w) ∧ sizedMet enc Tryd.prog Tryd.f5 (OpenSpec.ofChange Rows.formsMaySpec) false w args)
      (Rows.formsMaySpec.post enc Tryd.prog Tryd.f5 false true false false) := by
  refine returnsInHanded_of_change_and (C := Tryd.checked) (X := fun w _ => laidMetH Tryd.prog laidL w) (fun _ _ _ hh h => h.of_heap hh) own started (by kernel_rfl) Tryd.func5
    (ChangeSpec.witness_shaped (enc := enc) (C := Tryd.checked) (os := os) (X := fun w _ => laidMetH Tryd.prog laidL w) false (World.doorLaid Tryd.prog 46 os) #[.slice none 0 0, .int .i64 0, .int .i64 0] 8 rfl (World.shaped_of_RefB (by kernel_rfl) (by kernel_rfl)) (by kernel_rfl) (by kernel_rfl) (by kernel_rfl) (door_met os _)) ?_
  intro W base args ds gs before hval0 hW _ _ hL _
  have hval : ∀ (j : Nat) t v, Tryd.f5.params[j]? = some t → args[j]? = some v → Value.okWide Tryd.prog W .any base t v := hval0
  have hW' := hW
  obtain ⟨p, q, hA0, hV, rfl, hfz, hnd⟩ := hW
  have hA : DataW.TrodAll enc Tryd.prog W 0 (fun _ => true) true Tryd.f5.params.toList args.toList ds p := hA0
  rw [Tryd.params5] at hA hval
  obtain ⟨v0, vs0, d0, ds0, p0, q0, hargs, rfl, rfl, h0, r0⟩ := trodAll_cons hA
  obtain ⟨v1, vs1, d1, ds1, p1, q1, rfl, rfl, rfl, h1, r1⟩ := trodAll_cons r0
  obtain ⟨v2, vs2, d2, ds2, p2, q2, rfl, rfl, rfl, h2, r2⟩ := trodAll_cons r1
  obtain ⟨rfl, rfl, rfl⟩ := trodAll_nil r2
  obtain rfl : args = #[v0, v1, v2] := by cases args; simp_all
  obtain ⟨rfl, rfl⟩ := trodVars_none hV
  obtain ⟨g, hlaid⟩ := of_laid hL
  have k0 := h0
  have lt0 : ∀ x ∈ p0, x.block < W.heap.size := by obtain ⟨m, hm⟩ := k0; exact DataW.trod_lt m _ _ _ hm
  have k1 := h1
  have lt1 : ∀ x ∈ p1, x.block < W.heap.size := by obtain ⟨m, hm⟩ := k1; exact DataW.trod_lt m _ _ _ hm
  have k2 := h2
  have lt2 : ∀ x ∈ p2, x.block < W.heap.size := by obtain ⟨m, hm⟩ := k2; exact DataW.trod_lt m _ _ _ hm
  obtain ⟨a0, H0, L0, E0⟩ := open_l (hval 0 22 v0 rfl rfl) h0
  obtain ⟨a1, rfl, rfl, rfl, wa1⟩ := open_int Tryd.underlying3 (hval 1 3 v1 rfl rfl) h1
  obtain ⟨a2, rfl, rfl, rfl, wa2⟩ := open_int Tryd.underlying3 (hval 2 3 v2 rfl rfl) h2
  clear hA0 hval0
  refine (walk v0 a0 a1 a2 g wa1 wa2 W hlaid H0 L0 E0).mono fun e W' ⟨he, bel⟩ => ?_
  subst he
  exact ⟨_, rfl, _, _, _, [], _, [], hW', trodAll_mk1 (shut_bool Tryd.underlying4 _), (trodAll_cons_mk (Below.trod laidOut (by kernel_rfl) (of_decide_eq_true (by kernel_rfl)) k0 bel lt0) (trodAll_cons_mk (Below.trod laidOut (by kernel_rfl) (of_decide_eq_true (by kernel_rfl)) k1 bel lt1) (trodAll_cons_mk (Below.trod laidOut (by kernel_rfl) (of_decide_eq_true (by kernel_rfl)) k2 bel lt2) trodAll_mk0))), rfl, bel.frame _, fun h => by cases h⟩

theorem over : Rows.formsMayRow.holds Tryd.pinned (OpenSpec.ofChange Rows.formsMaySpec) :=
  OpenClaim.holds_of_wide 5 Tryd.f5 rfl rfl rfl rfl rfl rfl rfl ⟨rfl, rfl, rfl, rfl, rfl⟩ rfl rfl rfl rfl rfl (by kernel_rfl) Tryd.func5 (by kernel_rfl)
    (of_decide_eq_true (by kernel_rfl)) (by unfold Func.isWrapper; first | (rw [if_pos (by decide +kernel)]; kernel_rfl) | (rw [if_neg (by decide +kernel)]; exact ⟨rfl, rfl⟩))
    (fun os started H enc _ => lifted os started H enc)

/-- The row's card, tied to the program's text. -/
theorem card : Rows.FormsMayCardSaid :=
  Claim7.holds_tied_plain_at .later [] [.data] true Rows.formsMayCard.stood.harness false
    over (fun _ h => by cases h) (by kernel_rfl) (fun _ h => by cases h) formsMay_row_tie rfl ⟨rfl, rfl⟩ (by kernel_rfl) rfl
    (fun f fn hf hfn => by
      obtain rfl : f = 5 := Option.some.inj ((show Tryd.prog.funcNamed "abugida/abugidalaw17.FormsMay" = some 5 by kernel_rfl).symm.trans hf) |>.symm
      obtain rfl : fn = Tryd.f5 := (Option.some.inj (Tryd.func5.symm.trans hfn)).symm
      exact ⟨by kernel_rfl, fun j t ht => by
        rw [Tryd.params5] at ht
        have hm : t ∈ [22, 3, 3] := by simpa using Array.mem_of_getElem? ht
        have hall : ([22, 3, 3].all fun u => !Tryd.prog.wantsStandIn u) = true := by kernel_rfl
        exact (show Tryd.prog.wantsStandIn t = false by simpa using List.all_eq_true.1 hall t hm)⟩)
    (by kernel_rfl)

end Go.Proofs.YtkacbmimmnlhlaaDoor.formsMay
namespace Go.Proofs.YtkacbmimmnlhlaaDoor
theorem formsMay_proved : Rows.FormsMayCardSaid := formsMay.card
#print axioms formsMay_proved
end Go.Proofs.YtkacbmimmnlhlaaDoor
