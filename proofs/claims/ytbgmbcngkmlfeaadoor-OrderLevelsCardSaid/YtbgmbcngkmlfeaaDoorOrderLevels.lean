/- For every text OrderLevels returns true: Right, Levels and Runs return what the reference returns. No conditions. -/
import Derived.Test.YtbgmbcngkmlfeaaDoorOrd20
import Derived.Test.YtbgmbcngkmlfeaaDoorClsLaid
import Derived.ChangeMaps5
namespace Go.Proofs.YtbgmbcngkmlfeaaDoor.orderLevels
open Go.ChangeShapes Go.WideShapes Go.ChangeAt Go.RowKit Go.Joins Go.Deep Go.ChangeMaps
set_option linter.unusedVariables false

set_option maxRecDepth 100000 in
set_option maxHeartbeats 4000000 in
theorem walk (a0 : ByteArray) (g : Nat × Nat) (wa0 : a0.size ≤ maxLen) (w : World) (hl : Laid w g) :
    Calls Tryd.prog 3 #[.string a0] w fun e w' => e = .returned (.bool true) ∧ Below w.heap.size w w' := by
  have HL : Hid (∀ B, Below w.heap.size w B → Laid B g) := Lib.hid fun B hb => hl.mono hb
  have HS0 := Lib.hid (sane_any g w hl)
  clear hl
  go_enter Tryd.func3, Tryd.ntmps3
  go_wp2_with fail
  refine HS0.out.mono ?_
  rintro e w1 ⟨rfl, hb1⟩
  have HB1 := Lib.hid hb1
  clear hb1
  go_wp2_with fail
  refine (oshort_any a0 _ wa0).mono ?_
  rintro e _ ⟨rfl, rfl⟩
  have hts := SH_size a0
  obtain ⟨t, ht⟩ : ∃ t, SH a0 = t := ⟨_, rfl⟩
  rw [ht] at hts ⊢
  have ht1 : t.size ≤ 1000000000 := by omega
  have hrr : ((oright t) == (oright t)) = true := by simp
  have HLN := Lib.hid (OP.levels_len t)
  have HRN : Hid ((OP.runs (OP.levels t)).length ≤ 120) := Lib.hid (by have h1 := OP.runs_len (OP.levels t); rw [OP.levels_len] at h1; omega)
  clear ht hts
  go_wp2_with fail
  refine (oright_any t g _ (HL.out _ HB1.out) ht1).mono ?_
  rintro e w2 ⟨rfl, hb2⟩
  have HB2 := Lib.hid (bnext HB1.out hb2)
  clear hb2
  go_wp2_with fail
  refine (rright7_any t _ ht1).mono ?_
  rintro e w3 ⟨rfl, hb3⟩
  have HB3 := Lib.hid (bnext HB2.out hb3)
  clear hb3
  go_wp2_with fail
  refine (olevels_any t g _ (HL.out _ HB3.out) ht1).mono ?_
  rintro e w4 ⟨v4, rfl, ho4, hb4⟩
  have HB4 := Lib.hid (bnext HB3.out hb4)
  have HR4 := Lib.hid (row_own ho4 (by rw [List.length_map, HLN.out]))
  obtain ⟨p4, c4, rfl⟩ := own_shape ho4
  clear ho4
  clear hb4
  go_wp2_with fail
  refine (rlevels7_any t _ ht1).mono ?_
  rintro e w5 ⟨v5, rfl, ho5, hb5⟩
  have HB5 := Lib.hid (bnext HB4.out hb5)
  have HR5 := Lib.hid (row_own ho5 (by rw [List.length_map, HLN.out]))
  replace HR4 := Lib.hid (HR4.out.keep hb5)
  obtain ⟨p5, c5, rfl⟩ := own_shape ho5
  clear ho5
  clear hb5
  go_wp2_with fail
  refine (oequal_any _ _ (OP.levels t) _ HR4.out HR5.out (by rw [HLN.out]; omega)).mono ?_
  rintro e w6 ⟨rfl, hb6⟩
  have HB6 := Lib.hid (bnext HB5.out hb6)
  clear hb6
  go_wp2_with fail
  refine (oruns_any t g _ (HL.out _ HB6.out) ht1).mono ?_
  rintro e w7 ⟨v7, rfl, ho7, hb7⟩
  have HB7 := Lib.hid (bnext HB6.out hb7)
  have HN7 := Lib.hid (own_rn ho7)
  obtain ⟨p7, c7, rfl⟩ := own_shape ho7
  clear ho7
  clear hb7
  go_wp2_with fail
  refine (rruns7_any t _ ht1).mono ?_
  rintro e w8 ⟨v8, rfl, ho8, hb8⟩
  have HB8 := Lib.hid (bnext HB7.out hb8)
  have HN8 := Lib.hid (own_rn ho8)
  replace HN7 := Lib.hid (HN7.out.keep hb8)
  obtain ⟨p8, c8, rfl⟩ := own_shape ho8
  clear ho8
  clear hb8
  go_wp2_with fail
  refine (osame_any _ _ (OP.runs (OP.levels t)) _ HN7.out HN8.out (by have := HRN.out; omega)).mono ?_
  rintro e w9 ⟨rfl, hb9⟩
  have HB9 := Lib.hid (bnext HB8.out hb9)
  clear hb9
  go_wp2_with fail
  go_ret
  exact ⟨rfl, HB9.out⟩

set_option maxRecDepth 100000 in
theorem lifted (os : Os) (started : os.Started) (H : Type) (enc : TypeId × Value → H) :
    ReturnsInHanded {} Tryd.checked os 3 .any (fun w args => (Rows.orderLevelsSpec.pre enc Tryd.prog Tryd.f3 [] false w args ∧ laidMetH Tryd.prog laidL w) ∧ sizedMet enc Tryd.prog Tryd.f3 (OpenSpec.ofChange Rows.orderLevelsSpec) false w args)
      (Rows.orderLevelsSpec.post enc Tryd.prog Tryd.f3 false true false false) := by
  refine returnsInHanded_of_change_and (C := Tryd.checked) (X := fun w _ => laidMetH Tryd.prog laidL w) (fun _ _ _ hh h => h.of_heap hh) own started (by kernel_rfl) Tryd.func3
    (ChangeSpec.witness_shaped (enc := enc) (C := Tryd.checked) (os := os) (X := fun w _ => laidMetH Tryd.prog laidL w) false (World.doorLaid Tryd.prog 46 os) #[.string ByteArray.empty] 8 rfl (World.shaped_of_RefB (by kernel_rfl) (by kernel_rfl)) (by kernel_rfl) (by kernel_rfl) (by kernel_rfl) (door_met os _)) ?_
  intro W base args ds gs before hval0 hW _ _ hL _
  have hval : ∀ (j : Nat) t v, Tryd.f3.params[j]? = some t → args[j]? = some v → Value.okWide Tryd.prog W .any base t v := hval0
  have hW' := hW
  obtain ⟨p, q, hA0, hV, rfl, hfz, hnd⟩ := hW
  have hA : DataW.TrodAll enc Tryd.prog W 0 (fun _ => true) true Tryd.f3.params.toList args.toList ds p := hA0
  rw [Tryd.params3] at hA hval
  obtain ⟨v0, vs0, d0, ds0, p0, q0, hargs, rfl, rfl, h0, r0⟩ := trodAll_cons hA
  obtain ⟨rfl, rfl, rfl⟩ := trodAll_nil r0
  obtain rfl : args = #[v0] := by cases args; simp_all
  obtain ⟨rfl, rfl⟩ := trodVars_none hV
  obtain ⟨g, hlaid⟩ := of_laid hL
  have k0 := h0
  have lt0 : ∀ x ∈ p0, x.block < W.heap.size := by obtain ⟨m, hm⟩ := k0; exact DataW.trod_lt m _ _ _ hm
  obtain ⟨a0, rfl, rfl, rfl, wa0⟩ := open_string Tryd.underlying9 (hval 0 9 v0 rfl rfl) h0
  clear hA0 hval0
  refine (walk a0 g wa0 W hlaid).mono fun e W' ⟨he, bel⟩ => ?_
  subst he
  exact ⟨_, rfl, _, _, _, [], _, [], hW', trodAll_mk1 (shut_bool Tryd.underlying4 _), (trodAll_cons_mk (Below.trod laidOut (by kernel_rfl) (of_decide_eq_true (by kernel_rfl)) k0 bel lt0) trodAll_mk0), rfl, bel.frame _, fun h => by cases h⟩

theorem over : Rows.orderLevelsRow.holds Tryd.pinned (OpenSpec.ofChange Rows.orderLevelsSpec) :=
  OpenClaim.holds_of_wide 3 Tryd.f3 rfl rfl rfl rfl rfl rfl rfl ⟨rfl, rfl, rfl, rfl, rfl⟩ rfl rfl rfl rfl rfl (by kernel_rfl) Tryd.func3 (by kernel_rfl)
    (of_decide_eq_true (by kernel_rfl)) (by unfold Func.isWrapper; first | (rw [if_pos (by decide +kernel)]; kernel_rfl) | (rw [if_neg (by decide +kernel)]; exact ⟨rfl, rfl⟩))
    (fun os started H enc _ => lifted os started H enc)

/-- The row's card, tied to the program's text. -/
theorem card : Rows.OrderLevelsCardSaid :=
  Claim7.holds_tied_plain_at .later [] [.data] true Rows.orderLevelsCard.stood.harness false
    over (fun _ h => by cases h) (by kernel_rfl) (fun _ h => by cases h) orderLevels_row_tie rfl ⟨rfl, rfl⟩ (by kernel_rfl) rfl
    (fun f fn hf hfn => by
      obtain rfl : f = 3 := Option.some.inj ((show Tryd.prog.funcNamed "abugida/abugidalaw07.OrderLevels" = some 3 by kernel_rfl).symm.trans hf) |>.symm
      obtain rfl : fn = Tryd.f3 := (Option.some.inj (Tryd.func3.symm.trans hfn)).symm
      exact ⟨by kernel_rfl, fun j t ht => by
        rw [Tryd.params3] at ht
        have hm : t ∈ [9] := by simpa using Array.mem_of_getElem? ht
        have hall : ([9].all fun u => !Tryd.prog.wantsStandIn u) = true := by kernel_rfl
        exact (show Tryd.prog.wantsStandIn t = false by simpa using List.all_eq_true.1 hall t hm)⟩)
    (by kernel_rfl)

end Go.Proofs.YtbgmbcngkmlfeaaDoor.orderLevels
namespace Go.Proofs.YtbgmbcngkmlfeaaDoor
theorem orderLevels_proved : Rows.OrderLevelsCardSaid := orderLevels.card
#print axioms orderLevels_proved
end Go.Proofs.YtbgmbcngkmlfeaaDoor
