/- For every list of numbers and every text FormsTell returns true: forms are what the reference says. No conditions. -/
import Derived.Test.YtkacbmimmnlhlaaDoorFrmSane
import Derived.Test.YtkacbmimmnlhlaaDoorClsLaid
import Derived.ChangeMaps5
namespace Go.Proofs.YtkacbmimmnlhlaaDoor.formsTell
open Go.ChangeShapes Go.WideShapes Go.ChangeAt Go.RowKit Go.Joins Go.Deep Go.ChangeMaps
set_option linter.unusedVariables false

theorem text_of {v : Value} {a : List Int} {w W : World} (n : Nat) (hn : n ≤ 1000) (hv : RowAt w v (a.map (Value.int .i64))) (hL : a.length ≤ maxLen) (hE : ∀ x, x ∈ a → -9223372036854775808 ≤ x ∧ x ≤ 9223372036854775807) (hb : Below w.heap.size w W) :
    Calls Tryd.prog 10 #[v, .int .i64 n] W fun e W' => ∃ t : ByteArray, e = .returned (.string t) ∧ t.size ≤ n ∧ Below W.heap.size W W' :=
  text_any v a n W (hv.keep hb) hE hL hn
set_option maxRecDepth 100000 in
set_option maxHeartbeats 2000000 in
theorem walk (v0 : Value) (a0 : List Int) (a1 : ByteArray) (g : Nat × Nat) (wa1 : a1.size ≤ maxLen) (w : World) (hl : Laid w g) (H0 : RowAt w v0 (a0.map (Value.int .i64))) (L0 : a0.length ≤ maxLen ∧ ∀ a n c, v0 = .slice a n c → n ≤ c) (E0 : ∀ x, x ∈ a0 → -9223372036854775808 ≤ x ∧ x ≤ 9223372036854775807) :
    Calls Tryd.prog 3 #[v0, .string a1] w fun e w' => e = .returned (.bool true) ∧ Below w.heap.size w w' := by
  have HL : Hid (∀ B, Below w.heap.size w B → Laid B g) := Lib.hid fun B hb => hl.mono hb
  have acc0 : Below w.heap.size w w := Below.refl _ _
  have HM0 := Lib.hid (fun W (hb : Below w.heap.size w W) => text_of 60 (by omega) H0 L0.1 E0 hb)
  clear H0 E0
  go_enter Tryd.func3, Tryd.ntmps3
  go_wp2_with fail
  refine (sane_any g _ hl).mono ?_
  rintro e w1 ⟨rfl, hb1⟩
  have acc1 := bnext acc0 hb1
  clear hb1 acc0
  unfold maxLen at wa1
  go_wp2_with fail
  case inl =>
    obtain ⟨S, hS, hS1⟩ : ∃ S : ByteArray, a1.extract 0 100 = S ∧ S.size ≤ 100 := ⟨_, rfl, by simp; omega⟩
    rw [hS]
    clear hS
    refine (HM0.out _ acc1).mono ?_
    rintro e w2 ⟨t, rfl, ht, hb2⟩
    have acc2 := bnext acc1 hb2
    clear hb2 acc1 HM0
    have hs1 : S.size ≤ 1000000000 := by omega
    have ht1 : t.size ≤ 1000000000 := by omega
    go_wp2_with fail
    refine (forms_any t g _ (HL.out _ acc2) ht1).mono ?_
    rintro e w3 ⟨v3, rfl, o3, hb3⟩
    have acc3 := bnext acc2 hb3
    clear hb3 acc2
    have P1 := Lib.hid (own_src o3 (by rw [List.length_map, FP.forms_length]))
    clear o3
    go_wp2_with fail
    refine (rforms_any t _ ht1).mono ?_
    rintro e w4 ⟨v4, rfl, o4, hb4⟩
    replace P1 := Lib.hid (P1.out.keep hb4)
    have acc4 := bnext acc3 hb4
    clear hb4 acc3
    have Q1 := Lib.hid (own_src o4 (by rw [List.length_map, FP.forms_length]))
    clear o4
    go_wp2_with fail
    refine (is_any _ _ (FP.forms t) _ P1.out.row Q1.out.row (by rw [FP.forms_length]; have := CP.split_length t; omega)).mono ?_
    rintro e w5 ⟨rfl, hb5⟩
    have acc5 := bnext acc4 hb5
    clear hb5 acc4
    clear P1 Q1
    go_wp2_with fail
    refine (forms_any S g _ (HL.out _ acc5) hs1).mono ?_
    rintro e w6 ⟨v6, rfl, o6, hb6⟩
    have acc6 := bnext acc5 hb6
    clear hb6 acc5
    have P2 := Lib.hid (own_src o6 (by rw [List.length_map, FP.forms_length]))
    clear o6
    go_wp2_with fail
    refine (rforms_any S _ hs1).mono ?_
    rintro e w7 ⟨v7, rfl, o7, hb7⟩
    replace P2 := Lib.hid (P2.out.keep hb7)
    have acc7 := bnext acc6 hb7
    clear hb7 acc6
    have Q2 := Lib.hid (own_src o7 (by rw [List.length_map, FP.forms_length]))
    clear o7
    go_wp2_with fail
    refine (is_any _ _ (FP.forms S) _ P2.out.row Q2.out.row (by rw [FP.forms_length]; have := CP.split_length S; omega)).mono ?_
    rintro e w8 ⟨rfl, hb8⟩
    have acc8 := bnext acc7 hb8
    clear hb8 acc7
    clear P2 Q2
    go_wp2_with fail
    go_ret
    exact ⟨rfl, acc8⟩
  case inr =>
    obtain ⟨S, hS, hS1⟩ : ∃ S : ByteArray, a1 = S ∧ S.size ≤ 100 := ⟨_, rfl, by omega⟩
    rw [hS]
    clear hS
    refine (HM0.out _ acc1).mono ?_
    rintro e w2 ⟨t, rfl, ht, hb2⟩
    have acc2 := bnext acc1 hb2
    clear hb2 acc1 HM0
    have hs1 : S.size ≤ 1000000000 := by omega
    have ht1 : t.size ≤ 1000000000 := by omega
    go_wp2_with fail
    refine (forms_any t g _ (HL.out _ acc2) ht1).mono ?_
    rintro e w3 ⟨v3, rfl, o3, hb3⟩
    have acc3 := bnext acc2 hb3
    clear hb3 acc2
    have P1 := Lib.hid (own_src o3 (by rw [List.length_map, FP.forms_length]))
    clear o3
    go_wp2_with fail
    refine (rforms_any t _ ht1).mono ?_
    rintro e w4 ⟨v4, rfl, o4, hb4⟩
    replace P1 := Lib.hid (P1.out.keep hb4)
    have acc4 := bnext acc3 hb4
    clear hb4 acc3
    have Q1 := Lib.hid (own_src o4 (by rw [List.length_map, FP.forms_length]))
    clear o4
    go_wp2_with fail
    refine (is_any _ _ (FP.forms t) _ P1.out.row Q1.out.row (by rw [FP.forms_length]; have := CP.split_length t; omega)).mono ?_
    rintro e w5 ⟨rfl, hb5⟩
    have acc5 := bnext acc4 hb5
    clear hb5 acc4
    clear P1 Q1
    go_wp2_with fail
    refine (forms_any S g _ (HL.out _ acc5) hs1).mono ?_
    rintro e w6 ⟨v6, rfl, o6, hb6⟩
    have acc6 := bnext acc5 hb6
    clear hb6 acc5
    have P2 := Lib.hid (own_src o6 (by rw [List.length_map, FP.forms_length]))
    clear o6
    go_wp2_with fail
    refine (rforms_any S _ hs1).mono ?_
    rintro e w7 ⟨v7, rfl, o7, hb7⟩
    replace P2 := Lib.hid (P2.out.keep hb7)
    have acc7 := bnext acc6 hb7
    clear hb7 acc6
    have Q2 := Lib.hid (own_src o7 (by rw [List.length_map, FP.forms_length]))
    clear o7
    go_wp2_with fail
    refine (is_any _ _ (FP.forms S) _ P2.out.row Q2.out.row (by rw [FP.forms_length]; have := CP.split_length S; omega)).mono ?_
    rintro e w8 ⟨rfl, hb8⟩
    have acc8 := bnext acc7 hb8
    clear hb8 acc7
    clear P2 Q2
    go_wp2_with fail
    go_ret
    exact ⟨rfl, acc8⟩

set_option maxRecDepth 100000 in
theorem lifted (os : Os) (started : os.Started) (H : Type) (enc : TypeId × Value → H) :
    ReturnsInHanded {} Tryd.checked os 3 .any (fun w args => (Rows.formsTellSpec.pre enc Tryd.prog Tryd.f3 [] false w args ∧ laidMetH Tryd.prog laidL w) ∧ sizedMet enc Tryd.prog Tryd.f3 (OpenSpec.ofChange Rows.formsTellSpec) false w args)
      (Rows.formsTellSpec.post enc Tryd.prog Tryd.f3 false true false false) := by
  refine returnsInHanded_of_change_and (C := Tryd.checked) (X := fun w _ => laidMetH Tryd.prog laidL w) (fun _ _ _ hh h => h.of_heap hh) own started (by kernel_rfl) Tryd.func3
    (ChangeSpec.witness_shaped (enc := enc) (C := Tryd.checked) (os := os) (X := fun w _ => laidMetH Tryd.prog laidL w) false (World.doorLaid Tryd.prog 46 os) #[.slice none 0 0, .string ByteArray.empty] 8 rfl (World.shaped_of_RefB (by kernel_rfl) (by kernel_rfl)) (by kernel_rfl) (by kernel_rfl) (by kernel_rfl) (door_met os _)) ?_
  intro W base args ds gs before hval0 hW _ _ hL _
  have hval : ∀ (j : Nat) t v, Tryd.f3.params[j]? = some t → args[j]? = some v → Value.okWide Tryd.prog W .any base t v := hval0
  have hW' := hW
  obtain ⟨p, q, hA0, hV, rfl, hfz, hnd⟩ := hW
  have hA : DataW.TrodAll enc Tryd.prog W 0 (fun _ => true) true Tryd.f3.params.toList args.toList ds p := hA0
  rw [Tryd.params3] at hA hval
  obtain ⟨v0, vs0, d0, ds0, p0, q0, hargs, rfl, rfl, h0, r0⟩ := trodAll_cons hA
  obtain ⟨v1, vs1, d1, ds1, p1, q1, rfl, rfl, rfl, h1, r1⟩ := trodAll_cons r0
  obtain ⟨rfl, rfl, rfl⟩ := trodAll_nil r1
  obtain rfl : args = #[v0, v1] := by cases args; simp_all
  obtain ⟨rfl, rfl⟩ := trodVars_none hV
  obtain ⟨g, hlaid⟩ := of_laid hL
  have k0 := h0
  have lt0 : ∀ x ∈ p0, x.block < W.heap.size := by obtain ⟨m, hm⟩ := k0; exact DataW.trod_lt m _ _ _ hm
  have k1 := h1
  have lt1 : ∀ x ∈ p1, x.block < W.heap.size := by obtain ⟨m, hm⟩ := k1; exact DataW.trod_lt m _ _ _ hm
  obtain ⟨a0, H0, L0, E0⟩ := open_l (hval 0 22 v0 rfl rfl) h0
  obtain ⟨a1, rfl, rfl, rfl, wa1⟩ := open_string Tryd.underlying9 (hval 1 9 v1 rfl rfl) h1
  clear hA0 hval0
  refine (walk v0 a0 a1 g wa1 W hlaid H0 L0 E0).mono fun e W' ⟨he, bel⟩ => ?_
  subst he
  exact ⟨_, rfl, _, _, _, [], _, [], hW', trodAll_mk1 (shut_bool Tryd.underlying4 _), (trodAll_cons_mk (Below.trod laidOut (by kernel_rfl) (of_decide_eq_true (by kernel_rfl)) k0 bel lt0) (trodAll_cons_mk (Below.trod laidOut (by kernel_rfl) (of_decide_eq_true (by kernel_rfl)) k1 bel lt1) trodAll_mk0)), rfl, bel.frame _, fun h => by cases h⟩

theorem over : Rows.formsTellRow.holds Tryd.pinned (OpenSpec.ofChange Rows.formsTellSpec) :=
  OpenClaim.holds_of_wide 3 Tryd.f3 rfl rfl rfl rfl rfl rfl rfl ⟨rfl, rfl, rfl, rfl, rfl⟩ rfl rfl rfl rfl rfl (by kernel_rfl) Tryd.func3 (by kernel_rfl)
    (of_decide_eq_true (by kernel_rfl)) (by unfold Func.isWrapper; first | (rw [if_pos (by decide +kernel)]; kernel_rfl) | (rw [if_neg (by decide +kernel)]; exact ⟨rfl, rfl⟩))
    (fun os started H enc _ => lifted os started H enc)

/-- The row's card, tied to the program's text. -/
theorem card : Rows.FormsTellCardSaid :=
  Claim7.holds_tied_plain_at .later [] [.data] true Rows.formsTellCard.stood.harness false
    over (fun _ h => by cases h) (by kernel_rfl) (fun _ h => by cases h) formsTell_row_tie rfl ⟨rfl, rfl⟩ (by kernel_rfl) rfl
    (fun f fn hf hfn => by
      obtain rfl : f = 3 := Option.some.inj ((show Tryd.prog.funcNamed "abugida/abugidalaw17.FormsTell" = some 3 by kernel_rfl).symm.trans hf) |>.symm
      obtain rfl : fn = Tryd.f3 := (Option.some.inj (Tryd.func3.symm.trans hfn)).symm
      exact ⟨by kernel_rfl, fun j t ht => by
        rw [Tryd.params3] at ht
        have hm : t ∈ [22, 9] := by simpa using Array.mem_of_getElem? ht
        have hall : ([22, 9].all fun u => !Tryd.prog.wantsStandIn u) = true := by kernel_rfl
        exact (show Tryd.prog.wantsStandIn t = false by simpa using List.all_eq_true.1 hall t hm)⟩)
    (by kernel_rfl)

end Go.Proofs.YtkacbmimmnlhlaaDoor.formsTell
namespace Go.Proofs.YtkacbmimmnlhlaaDoor
theorem formsTell_proved : Rows.FormsTellCardSaid := formsTell.card
#print axioms formsTell_proved
end Go.Proofs.YtkacbmimmnlhlaaDoor
