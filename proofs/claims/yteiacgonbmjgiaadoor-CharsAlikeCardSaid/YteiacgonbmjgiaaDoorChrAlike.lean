/- For every two numbers CharsAlike returns true: characters of one class extend alike and join alike, and of one script and one class they are equally strong. No conditions. -/
import Derived.Test.YteiacgonbmjgiaaDoorChrLaid
namespace Go.Proofs.YteiacgonbmjgiaaDoor.charsAlike
open Go.ChangeShapes Go.WideShapes Go.ChangeAt Go.RowKit Go.Joins Go.Deep
set_option linter.unusedVariables false

set_option maxRecDepth 100000 in
set_option maxHeartbeats 1000000 in
theorem walk (a0 : Int) (a1 : Int) (g : Nat × Nat) (wa0 : (Lit.int .i64 a0).wf = true) (wa1 : (Lit.int .i64 a1).wf = true) (w : World) (hl : Laid w g) :
    Calls Tryd.prog 6 #[.int .i64 a0, .int .i64 a1] w fun e w' => e = .returned (.bool true) ∧ Below w.heap.size w w' := by
  have HL := Lib.hid hl
  clear hl
  have acc : Below w.heap.size w w := Below.refl _ _
  by_cases h : FC.cls (bits BinOp.and IntKind.i64 a0 255) = FC.cls (bits BinOp.and IntKind.i64 a1 255)
  · have e1 : (FC.cls (bits BinOp.and IntKind.i64 a0 255) != FC.cls (bits BinOp.and IntKind.i64 a1 255)) = false := by simp [h]
    have e2 : (FC.extB (bits BinOp.and IntKind.i64 a0 255) == FC.extB (bits BinOp.and IntKind.i64 a1 255)) = true := by simp [FC.extB, h]
    have e3 : (FC.joinB (bits BinOp.and IntKind.i64 a0 255) == FC.joinB (bits BinOp.and IntKind.i64 a1 255)) = true := by simp [FC.joinB, h]
    have e4 : (FC.dualB (bits BinOp.and IntKind.i64 a0 255) == FC.dualB (bits BinOp.and IntKind.i64 a1 255)) = true := by simp [FC.dualB, h]
    by_cases k : FC.scr (bits BinOp.and IntKind.i64 a0 255) = FC.scr (bits BinOp.and IntKind.i64 a1 255)
    · have e5 : (FC.scr (bits BinOp.and IntKind.i64 a0 255) != FC.scr (bits BinOp.and IntKind.i64 a1 255)) = false := by simp [k]
      have e6 : (FC.stg (bits BinOp.and IntKind.i64 a0 255) == FC.stg (bits BinOp.and IntKind.i64 a1 255)) = true := by simp [FC.stg, h, k]
      clear h k
      go_enter Tryd.func6, Tryd.ntmps6
      go_wp2_with (first | (go_at_call 8; refine (sanity_any g _ (HL.out.mono acc)).mono ?_; rintro e w1 ⟨rfl, hb1⟩; replace acc := bnext acc hb1; clear hb1) | (go_at_call 9; refine (joins_any _ g _ (HL.out.mono acc)).mono ?_; rintro e w1 ⟨rfl, hb1⟩; replace acc := bnext acc hb1; clear hb1) | (go_at_call 18; refine (script_any _ g _ (HL.out.mono acc)).mono ?_; rintro e w1 ⟨rfl, hb1⟩; replace acc := bnext acc hb1; clear hb1) | (go_at_call 21; refine (extends_any _ g _ (HL.out.mono acc)).mono ?_; rintro e w1 ⟨rfl, hb1⟩; replace acc := bnext acc hb1; clear hb1) | (go_at_call 20; refine (strong_any _ g _ (HL.out.mono acc)).mono ?_; rintro e w1 ⟨rfl, hb1⟩; replace acc := bnext acc hb1; clear hb1) | (go_at_call 19; refine (class_any _ g _ (HL.out.mono acc)).mono ?_; rintro e w1 ⟨rfl, hb1⟩; replace acc := bnext acc hb1; clear hb1))
      go_ret
      exact ⟨rfl, acc⟩
    · have e5 : (FC.scr (bits BinOp.and IntKind.i64 a0 255) != FC.scr (bits BinOp.and IntKind.i64 a1 255)) = true := by simp [k]
      clear h k
      go_enter Tryd.func6, Tryd.ntmps6
      go_wp2_with (first | (go_at_call 8; refine (sanity_any g _ (HL.out.mono acc)).mono ?_; rintro e w1 ⟨rfl, hb1⟩; replace acc := bnext acc hb1; clear hb1) | (go_at_call 9; refine (joins_any _ g _ (HL.out.mono acc)).mono ?_; rintro e w1 ⟨rfl, hb1⟩; replace acc := bnext acc hb1; clear hb1) | (go_at_call 18; refine (script_any _ g _ (HL.out.mono acc)).mono ?_; rintro e w1 ⟨rfl, hb1⟩; replace acc := bnext acc hb1; clear hb1) | (go_at_call 21; refine (extends_any _ g _ (HL.out.mono acc)).mono ?_; rintro e w1 ⟨rfl, hb1⟩; replace acc := bnext acc hb1; clear hb1) | (go_at_call 20; refine (strong_any _ g _ (HL.out.mono acc)).mono ?_; rintro e w1 ⟨rfl, hb1⟩; replace acc := bnext acc hb1; clear hb1) | (go_at_call 19; refine (class_any _ g _ (HL.out.mono acc)).mono ?_; rintro e w1 ⟨rfl, hb1⟩; replace acc := bnext acc hb1; clear hb1))
      go_ret
      exact ⟨rfl, acc⟩
  · have e1 : (FC.cls (bits BinOp.and IntKind.i64 a0 255) != FC.cls (bits BinOp.and IntKind.i64 a1 255)) = true := by simp [h]
    clear h
    go_enter Tryd.func6, Tryd.ntmps6
    go_wp2_with (first | (go_at_call 8; refine (sanity_any g _ (HL.out.mono acc)).mono ?_; rintro e w1 ⟨rfl, hb1⟩; replace acc := bnext acc hb1; clear hb1) | (go_at_call 9; refine (joins_any _ g _ (HL.out.mono acc)).mono ?_; rintro e w1 ⟨rfl, hb1⟩; replace acc := bnext acc hb1; clear hb1) | (go_at_call 18; refine (script_any _ g _ (HL.out.mono acc)).mono ?_; rintro e w1 ⟨rfl, hb1⟩; replace acc := bnext acc hb1; clear hb1) | (go_at_call 21; refine (extends_any _ g _ (HL.out.mono acc)).mono ?_; rintro e w1 ⟨rfl, hb1⟩; replace acc := bnext acc hb1; clear hb1) | (go_at_call 20; refine (strong_any _ g _ (HL.out.mono acc)).mono ?_; rintro e w1 ⟨rfl, hb1⟩; replace acc := bnext acc hb1; clear hb1) | (go_at_call 19; refine (class_any _ g _ (HL.out.mono acc)).mono ?_; rintro e w1 ⟨rfl, hb1⟩; replace acc := bnext acc hb1; clear hb1))
    go_ret
    exact ⟨rfl, acc⟩

set_option maxRecDepth 100000 in
theorem lifted (os : Os) (started : os.Started) (H : Type) (enc : TypeId × Value → H) :
    ReturnsInHanded {} Tryd.checked os 6 .any (fun w args => (Rows.charsAlikeSpec.pre enc Tryd.prog Tryd.f6 [] false w args ∧ laidMetH Tryd.prog laidL w) ∧ sizedMet enc Tryd.prog Tryd.f6 (OpenSpec.ofChange Rows.charsAlikeSpec) false w args)
      (Rows.charsAlikeSpec.post enc Tryd.prog Tryd.f6 false true false false) := by
  refine returnsInHanded_of_change_and (C := Tryd.checked) (X := fun w _ => laidMetH Tryd.prog laidL w) (fun _ _ _ hh h => h.of_heap hh) own started (by kernel_rfl) Tryd.func6
    (ChangeSpec.witness_shaped (enc := enc) (C := Tryd.checked) (os := os) (X := fun w _ => laidMetH Tryd.prog laidL w) false (World.doorLaid Tryd.prog 46 os) #[.int .i64 0, .int .i64 0] 8 rfl (World.shaped_of_RefB (by kernel_rfl) (by kernel_rfl)) (by kernel_rfl) (by kernel_rfl) (by kernel_rfl) (door_met os _)) ?_
  intro W base args ds gs before hval0 hW _ _ hL _
  have hval : ∀ (j : Nat) t v, Tryd.f6.params[j]? = some t → args[j]? = some v → Value.okWide Tryd.prog W .any base t v := hval0
  have hW' := hW
  obtain ⟨p, q, hA0, hV, rfl, hfz, hnd⟩ := hW
  have hA : DataW.TrodAll enc Tryd.prog W 0 (fun _ => true) true Tryd.f6.params.toList args.toList ds p := hA0
  rw [Tryd.params6] at hA hval
  obtain ⟨v0, vs0, d0, ds0, p0, q0, hargs, rfl, rfl, h0, r0⟩ := trodAll_cons hA
  obtain ⟨v1, vs1, d1, ds1, p1, q1, rfl, rfl, rfl, h1, r1⟩ := trodAll_cons r0
  obtain ⟨rfl, rfl, rfl⟩ := trodAll_nil r1
  obtain rfl : args = #[v0, v1] := by cases args; simp_all
  obtain ⟨rfl, rfl⟩ := trodVars_none hV
  obtain ⟨g, hlaid⟩ := of_laid hL
  have k0 := h0
  have lt0 : ∀ x ∈ p0, x.block < W.heap.size := by obtain ⟨m, hm⟩ := k0; exact DataW.trod_lt m _ _ _ hm
  have k1 := h1
  have lt1 : ∀ x ∈ p1, x.block < W.heap.size := by obtain ⟨m, hm⟩ := k1; exact DataW.trod_lt m _ _ _ hm
  obtain ⟨a0, rfl, rfl, rfl, wa0⟩ := open_int Tryd.underlying3 (hval 0 3 v0 rfl rfl) h0
  obtain ⟨a1, rfl, rfl, rfl, wa1⟩ := open_int Tryd.underlying3 (hval 1 3 v1 rfl rfl) h1
  clear hA0 hval0
  refine (walk a0 a1 g wa0 wa1 W hlaid).mono fun e W' ⟨he, bel⟩ => ?_
  subst he
  exact ⟨_, rfl, _, _, _, [], _, [], hW', trodAll_mk1 (shut_bool Tryd.underlying4 _), (trodAll_cons_mk (Below.trod laidOut (by kernel_rfl) (of_decide_eq_true (by kernel_rfl)) k0 bel lt0) (trodAll_cons_mk (Below.trod laidOut (by kernel_rfl) (of_decide_eq_true (by kernel_rfl)) k1 bel lt1) trodAll_mk0)), rfl, bel.frame _, fun h => by cases h⟩

theorem over : Rows.charsAlikeRow.holds Tryd.pinned (OpenSpec.ofChange Rows.charsAlikeSpec) :=
  OpenClaim.holds_of_wide 6 Tryd.f6 rfl rfl rfl rfl rfl rfl rfl ⟨rfl, rfl, rfl, rfl, rfl⟩ rfl rfl rfl rfl rfl (by kernel_rfl) Tryd.func6 (by kernel_rfl)
    (of_decide_eq_true (by kernel_rfl)) (by unfold Func.isWrapper; first | (rw [if_pos (by decide +kernel)]; kernel_rfl) | (rw [if_neg (by decide +kernel)]; exact ⟨rfl, rfl⟩))
    (fun os started H enc _ => lifted os started H enc)

/-- The row's card, tied to the program's text. -/
theorem card : Rows.CharsAlikeCardSaid :=
  Claim7.holds_tied_plain_at .later [] [.data] true Rows.charsAlikeCard.stood.harness false
    over (fun _ h => by cases h) (by kernel_rfl) (fun _ h => by cases h) charsAlike_row_tie rfl ⟨rfl, rfl⟩ (by kernel_rfl) rfl
    (fun f fn hf hfn => by
      obtain rfl : f = 6 := Option.some.inj ((show Tryd.prog.funcNamed "abugida/abugidalaw05.CharsAlike" = some 6 by kernel_rfl).symm.trans hf) |>.symm
      obtain rfl : fn = Tryd.f6 := (Option.some.inj (Tryd.func6.symm.trans hfn)).symm
      exact ⟨by kernel_rfl, fun j t ht => by
        rw [Tryd.params6] at ht
        have hm : t ∈ [3, 3] := by simpa using Array.mem_of_getElem? ht
        have hall : ([3, 3].all fun u => !Tryd.prog.wantsStandIn u) = true := by kernel_rfl
        exact (show Tryd.prog.wantsStandIn t = false by simpa using List.all_eq_true.1 hall t hm)⟩)
    (by kernel_rfl)

end Go.Proofs.YteiacgonbmjgiaaDoor.charsAlike
namespace Go.Proofs.YteiacgonbmjgiaaDoor
theorem charsAlike_proved : Rows.CharsAlikeCardSaid := charsAlike.card
#print axioms charsAlike_proved
end Go.Proofs.YteiacgonbmjgiaaDoor
