/- For every number CharsAll returns true: all questions on characters are answered as the reference answers them. No conditions. -/
import Derived.Test.YteiacgonbmjgiaaDoorChrLaid
import Derived.Deep.RegionHeld3
import Derived.Deep.RegionWith
namespace Go.Proofs.YteiacgonbmjgiaaDoor.charsAll
open Go.ChangeShapes Go.WideShapes Go.ChangeAt Go.RowKit Go.Joins Go.Deep
set_option linter.unusedVariables false

theorem kp {wr wx : World} {B k : Nat} {X : Int} (hX : wr.cell? ⟨B, k, none⟩ = some (.int .i64 X)) (hlt : B < wr.heap.size) (h : Below wr.heap.size wr wx) : Below wr.heap.size wr wx ∧ wx.cell? ⟨B, k, none⟩ = some (.int .i64 X) :=
  ⟨h, (h.cell (p := ⟨B, k, none⟩) hlt).trans hX⟩

set_option maxRecDepth 100000 in
set_option maxHeartbeats 1000000 in
theorem walk (a0 : Int) (g : Nat × Nat) (wa0 : (Lit.int .i64 a0).wf = true) (w : World) (hl : Laid w g) :
    Calls Tryd.prog 3 #[.int .i64 a0] w fun e w' => e = .returned (.bool true) ∧ Below w.heap.size w w' := by
  have HL := Lib.hid hl
  clear hl
  have acc : Below w.heap.size w w := Below.refl _ _
  go_enter Tryd.func3, Tryd.ntmps3
  go_wp2_with (first | (go_at_call 8; refine (sanity_any g _ (HL.out.mono acc)).mono ?_; rintro e w1 ⟨rfl, hb1⟩; replace acc := bnext acc hb1; clear hb1))
  go_loopw [5] (fun i wr => ∃ k : Nat, k ≤ 2 ∧ i = .int .i64 k ∧ w1.heap.size < wr.heap.size ∧ Hid (∀ j, j < 2 → wr.cell? ⟨w1.heap.size, j, none⟩ = some (.int .i64 ([a0, bits BinOp.and IntKind.i64 a0 255].getD j 0))) ∧ Below w.heap.size w wr) (fun i _ => 2 - (intOf i).toNat)
  case atStart => exact ⟨0, Nat.zero_le _, rfl, by simp, Lib.hid fun j hj => by
      match j, hj with
      | 0, _ => rw [World.cell?_alloc_at _ _ _ _ (by simp)]; rfl
      | 1, _ => rw [World.cell?_alloc_at _ _ _ _ (by simp)]; rfl, by (repeat' (first | exact Below.refl _ _ | (with_reducible assumption) | (refine bnext ?_ (by with_reducible assumption)) | (refine balloc ?_ _) | (refine below_drewN ?_ _) | (refine Below.drew ?_) | (refine bset ?_ (by simp; try omega) _)))⟩
  case round =>
    obtain ⟨k, hk, rfl, hlt, HC, hbr⟩ := hrel
    by_cases hk2 : k < 2
    · obtain ⟨X, hX0⟩ : ∃ X, wr.cell? ⟨w1.heap.size, k, none⟩ = some (.int .i64 X) := ⟨_, HC.out k hk2⟩
      have hX := hX0
      have e1 : isB X (FC.cls X) (FC.scr X) (FC.stg X) (FC.extB X) = true := by simp [isB]
      clear wa0
      go_wp2_with (first | (go_at_call 10; refine (rjoins_any _ _).mono ?_; rintro e wx ⟨rfl, rfl⟩) | (go_at_call 9; refine (joins_any _ g _ (HL.out.mono hbr)).mono ?_; rintro e w2 ⟨rfl, hb2⟩; have hX2 := (hb2.cell (p := ⟨w1.heap.size, k, none⟩) hlt).trans hX; have hlt2 : w1.heap.size < w2.heap.size := (Nat.lt_of_lt_of_le hlt hb2.size); have hbr2 := bnext hbr hb2))
      go_region_held3 (fun w' => Below w2.heap.size w2 w' ∧ w'.cell? ⟨w1.heap.size, k, none⟩ = some (.int .i64 X)) ((refine kp hX2 hlt2 ?_; (repeat' (first | exact Below.refl _ _ | (with_reducible assumption) | (refine bnext ?_ (by with_reducible assumption)) | (refine balloc ?_ _) | (refine below_drewN ?_ _) | (refine Below.drew ?_) | (refine bset ?_ (by simp; try omega) _))))) (first | (go_at_call 12; refine (rclass_any _ _).mono ?_; rintro e wx ⟨rfl, rfl⟩) | (go_at_call 13; refine (rscript_any _ _).mono ?_; rintro e wx ⟨rfl, rfl⟩) | (go_at_call 14; refine (rstrong_any _ _).mono ?_; rintro e wx ⟨rfl, hbx⟩) | (go_at_call 15; refine (rextends_any _ _).mono ?_; rintro e wx ⟨rfl, rfl⟩) | (go_at_call 11; refine (is_any _ _ _ _ _ g _ (HL.out.mono (by (repeat' (first | exact Below.refl _ _ | (with_reducible assumption) | (refine bnext ?_ (by with_reducible assumption)) | (refine balloc ?_ _) | (refine below_drewN ?_ _) | (refine Below.drew ?_) | (refine bset ?_ (by simp; try omega) _)))))).mono ?_; rintro e wx ⟨rfl, hbx⟩))
      have hS : Below wr.heap.size wr wx := bnext hb2 (‹Below w2.heap.size w2 wx ∧ wx.cell? ⟨w1.heap.size, k, none⟩ = some (.int .i64 X)›).1
      go_wp2
      go_roundw
      case rel => exact ⟨k + 1, by omega, by go_num, Nat.lt_of_lt_of_le hlt hS.size, Lib.hid fun j hj => (hS.cell (p := ⟨w1.heap.size, j, none⟩) hlt).trans (HC.out j hj), bnext hbr hS⟩
      case measure => simp [intOf]; omega
    · go_wp2
      go_ret
      exact ⟨rfl, hbr⟩

set_option maxRecDepth 100000 in
theorem lifted (os : Os) (started : os.Started) (H : Type) (enc : TypeId × Value → H) :
    ReturnsInHanded {} Tryd.checked os 3 .any (fun w args => (Rows.charsAllSpec.pre enc Tryd.prog Tryd.f3 [] false w args ∧ laidMetH Tryd.prog laidL w) ∧ sizedMet enc Tryd.prog Tryd.f3 (OpenSpec.ofChange Rows.charsAllSpec) false w args)
      (Rows.charsAllSpec.post enc Tryd.prog Tryd.f3 false true false false) := by
  refine returnsInHanded_of_change_and (C := Tryd.checked) (X := fun w _ => laidMetH Tryd.prog laidL w) (fun _ _ _ hh h => h.of_heap hh) own started (by kernel_rfl) Tryd.func3
    (ChangeSpec.witness_shaped (enc := enc) (C := Tryd.checked) (os := os) (X := fun w _ => laidMetH Tryd.prog laidL w) false (World.doorLaid Tryd.prog 46 os) #[.int .i64 0] 8 rfl (World.shaped_of_RefB (by kernel_rfl) (by kernel_rfl)) (by kernel_rfl) (by kernel_rfl) (by kernel_rfl) (door_met os _)) ?_
  intro W base args ds gs before hval0 hW _ _ hL _
  have hval : ∀ (j : Nat) t v, Tryd.f3.params[j]? = some t → args[j]? = some v → Value.okWide Tryd.prog W .any base t v := hval0
  have hW' := hW
  obtain ⟨p, q, hA0, hV, rfl, hfz, hnd⟩ := hW
  have hA : DataW.TrodAll enc Tryd.prog W 0 (fun _ => true) true Tryd.f3.params.toList args.toList ds p := hA0
  rw [Tryd.params3] at hA hval
  obtain ⟨v0, vs0, d0, ds0, p0, q0, hargs, rfl, rfl, h0, r0⟩ := trodAll_cons hA
  obtain ⟨rfl, rfl, rfl⟩ := trodAll_nil r0
  obtain rfl : args = #[v0] := by cases args; simp_all
  obtain ⟨rfl, rfl⟩ := trodVars_none hV
  obtain ⟨g, hlaid⟩ := of_laid hL
  have k0 := h0
  have lt0 : ∀ x ∈ p0, x.block < W.heap.size := by obtain ⟨m, hm⟩ := k0; exact DataW.trod_lt m _ _ _ hm
  obtain ⟨a0, rfl, rfl, rfl, wa0⟩ := open_int Tryd.underlying3 (hval 0 3 v0 rfl rfl) h0
  clear hA0 hval0
  refine (walk a0 g wa0 W hlaid).mono fun e W' ⟨he, bel⟩ => ?_
  subst he
  exact ⟨_, rfl, _, _, _, [], _, [], hW', trodAll_mk1 (shut_bool Tryd.underlying4 _), (trodAll_cons_mk (Below.trod laidOut (by kernel_rfl) (of_decide_eq_true (by kernel_rfl)) k0 bel lt0) trodAll_mk0), rfl, bel.frame _, fun h => by cases h⟩

theorem over : Rows.charsAllRow.holds Tryd.pinned (OpenSpec.ofChange Rows.charsAllSpec) :=
  OpenClaim.holds_of_wide 3 Tryd.f3 rfl rfl rfl rfl rfl rfl rfl ⟨rfl, rfl, rfl, rfl, rfl⟩ rfl rfl rfl rfl rfl (by kernel_rfl) Tryd.func3 (by kernel_rfl)
    (of_decide_eq_true (by kernel_rfl)) (by unfold Func.isWrapper; first | (rw [if_pos (by decide +kernel)]; kernel_rfl) | (rw [if_neg (by decide +kernel)]; exact ⟨rfl, rfl⟩))
    (fun os started H enc _ => lifted os started H enc)

/-- The row's card, tied to the program's text. -/
theorem card : Rows.CharsAllCardSaid :=
  Claim7.holds_tied_plain_at .later [] [.data] true Rows.charsAllCard.stood.harness false
    over (fun _ h => by cases h) (by kernel_rfl) (fun _ h => by cases h) charsAll_row_tie rfl ⟨rfl, rfl⟩ (by kernel_rfl) rfl
    (fun f fn hf hfn => by
      obtain rfl : f = 3 := Option.some.inj ((show Tryd.prog.funcNamed "abugida/abugidalaw05.CharsAll" = some 3 by kernel_rfl).symm.trans hf) |>.symm
      obtain rfl : fn = Tryd.f3 := (Option.some.inj (Tryd.func3.symm.trans hfn)).symm
      exact ⟨by kernel_rfl, fun j t ht => by
        rw [Tryd.params3] at ht
        have hm : t ∈ [3] := by simpa using Array.mem_of_getElem? ht
        have hall : ([3].all fun u => !Tryd.prog.wantsStandIn u) = true := by kernel_rfl
        exact (show Tryd.prog.wantsStandIn t = false by simpa using List.all_eq_true.1 hall t hm)⟩)
    (by kernel_rfl)

end Go.Proofs.YteiacgonbmjgiaaDoor.charsAll
namespace Go.Proofs.YteiacgonbmjgiaaDoor
theorem charsAll_proved : Rows.CharsAllCardSaid := charsAll.card
#print axioms charsAll_proved
end Go.Proofs.YteiacgonbmjgiaaDoor
